"""Nets as texts: how many knots, the ties and the rim, all by their figures."""

from probeties.errors import NoText
from probeties.nets import is_net

FIGURES = "0123456789"


def written(net):
    """The text of the net."""
    many, ties, rim = net
    pairs = ",".join(f"{one}{other}" for one, other in ties)
    knots = "".join(str(knot) for knot in rim)
    return f"{many};{pairs};{knots}"


def are_figures(text):
    """Whether the text has no other signs than figures."""
    return all(sign in FIGURES for sign in text)


def numbers_of(text):
    """The number of each figure."""
    return tuple(int(sign) for sign in text)


def pairs_read(text):
    """For each piece between commas the numbers of its figures, whether or not they are a tie."""
    return tuple(numbers_of(pair) for pair in text.split(",")) if text else ()


def thing_read(text):
    """What the text has in place of the three parts of a net, or None if it has no such three."""
    parts = text.split(";")
    if len(parts) != 3:
        return None
    many, pairs, knots = parts
    if len(many) != 1 or not are_figures(many + pairs.replace(",", "") + knots):
        return None
    return (int(many), pairs_read(pairs), numbers_of(knots))


def read(text):
    """The net that has this text; NoText."""
    thing = thing_read(text)
    if not is_net(thing):
        raise NoText(f"no net's text: {text}")
    return thing
