"""The refusals of the program, one class for each kind."""


class ProbeError(ValueError):
    """Any refusal."""


class NoTie(ProbeError):
    """There is no tie between two knots."""


class NoRoute(ProbeError):
    """There is no such route."""


class NoSuspect(ProbeError):
    """What was shown leaves no case, or not just one."""


class NoStep(ProbeError):
    """There is nothing to take back."""


class NoText(ProbeError):
    """The text is no net's."""
