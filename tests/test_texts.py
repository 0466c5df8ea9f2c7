"""[8.1]: nets as texts; [0.2] (h)."""

import re
import unittest
from itertools import combinations, permutations, product

from probeties.errors import NoText
from probeties.nets import is_net
from probeties.texts import read, written
from samples import CHAIN, DUMBBELL, FULL, KITE, LONE, NETS, PARTED, RING, UNEVEN, five_knot_nets, small_nets

# From the blank to ~, without the one for parts in a hundred.
SIGNS = [chr(code) for code in range(32, 127) if code != 37]
WIDE = (7, ((0, 6), (1, 6), (2, 6), (3, 6), (4, 6), (5, 6)), (0, 1, 2, 3, 4, 5, 6))
TEXTS = {
    LONE: "1;;0",
    (2, (), (1,)): "2;;1",
    (2, ((0, 1),), (0, 1)): "2;01;01",
    CHAIN: "3;01,12;02",
    RING: "3;01,02,12;012",
    KITE: "4;01,02,12,13,23;03",
    (5, (), (0, 2, 4)): "5;;024",
    PARTED: "6;01,02,12,34,45;0135",
    DUMBBELL: "7;01,02,12,23,34,35,45,56;04",
    FULL: "7;01,02,03,14,24,25,35,46,56;046",
    WIDE: "7;06,16,26,36,46,56;0123456",
    (7, (), (6,)): "7;;6",
}


def slow_read(text):
    """The net of the text by its form and numbers, or None."""
    if not re.fullmatch("[1-7];([0-6][0-6](,[0-6][0-6])*)?;[0-6]+", text, re.ASCII):
        return None
    first, second, third = text.split(";")
    ties = [(int(pair[0]), int(pair[1])) for pair in second.split(",") if pair]
    rim = [int(sign) for sign in third]
    if len(ties) > 9 or any(one >= other for one, other in ties):
        return None
    if ties != sorted(set(ties)) or rim != sorted(set(rim)):
        return None
    if max(rim + [knot for tie in ties for knot in tie]) >= int(first):
        return None
    return (int(first), tuple(ties), tuple(rim))


def changed(text):
    """The text with a sign put in, left out or exchanged at each place."""
    for at in range(len(text) + 1):
        for sign in SIGNS:
            yield text[:at] + sign + text[at:]
            if at < len(text):
                yield text[:at] + sign + text[at + 1:]
        if at < len(text):
            yield text[:at] + text[at + 1:]


class WrittenTest(unittest.TestCase):
    def test_told(self):
        for net, text in TEXTS.items():
            self.assertEqual(written(net), text)

    def test_nets_of_each_size_without_ties(self):
        for many in range(1, 8):
            self.assertEqual(written((many, (), (many - 1,))), f"{many};;{many - 1}")
            rim = tuple(range(many))
            self.assertEqual(written((many, (), rim)), f"{many};;{'0123456'[:many]}")

    def test_unlike_nets_have_unlike_texts(self):
        nets = list(small_nets(4)) + list(five_knot_nets())
        self.assertEqual(len({written(net) for net in nets}), len(nets))


class ReadTest(unittest.TestCase):
    def assert_refused(self, *texts):
        for text in texts:
            with self.assertRaises(NoText, msg=repr(text)) as caught:
                read(text)
            self.assertIs(type(caught.exception), NoText)

    def check(self, text):
        wanted = slow_read(text)
        if wanted is None:
            self.assert_refused(text)
        else:
            self.assertEqual(repr(read(text)), repr(wanted))

    def test_told(self):
        for net, text in TEXTS.items():
            self.assertEqual(repr(read(text)), repr(net))

    def test_a_net_and_its_text_tell_one_another(self):
        for net in list(small_nets(4)) + list(five_knot_nets()) + list(NETS) + list(UNEVEN) + [WIDE]:
            text = written(net)
            self.assertEqual(read(text), net)
            self.assertEqual(written(read(text)), text)
            self.assertIs(is_net(read(text)), True)

    def test_all_short_texts(self):
        taken = []
        for size in range(8):
            for signs in product("012;,", repeat=size):
                text = "".join(signs)
                self.check(text)
                if slow_read(text) is not None:
                    taken.append(text)
        wanted = [net for net in small_nets(2) if len(written(net)) < 8]
        self.assertEqual(sorted(taken), sorted(written(net) for net in wanted))

    def test_a_sign_put_in_left_out_or_exchanged(self):
        for text in TEXTS.values():
            for other in changed(text):
                self.check(other)

    def test_two_signs_exchanged_with_one_another(self):
        for text in TEXTS.values():
            for one, other in combinations(range(len(text)), 2):
                signs = list(text)
                signs[one], signs[other] = signs[other], signs[one]
                self.check("".join(signs))

    def test_pieces_left_out_said_twice_or_out_of_order(self):
        for text in TEXTS.values():
            for mark in ";,":
                pieces = text.split(mark)
                for at, piece in enumerate(pieces):
                    self.check(mark.join(pieces[:at] + pieces[at + 1:]))
                    self.check(mark.join(pieces[:at] + [piece] + pieces[at:]))
                    self.check(mark.join(pieces[:at] + [piece[::-1]] + pieces[at + 1:]))
                    self.check(mark.join(pieces[:at] + [""] + pieces[at + 1:]))
                    self.check(mark.join(pieces[:at] + [""] + pieces[at:]))
                for order in permutations(pieces) if len(pieces) < 6 else [pieces[::-1], pieces[1:] + pieces[:1]]:
                    self.check(mark.join(order))
            self.check(text[::-1])
            self.check(text + text)
            for at in range(len(text)):
                self.check(text[:at])
                self.check(text[at:])

    def test_empty_and_other_texts(self):
        self.assert_refused("", " ", ";", ";;", ";;0", ";;;", "1", "1;", "1;;", "1;0", "net", "(1, (), (0,))", "0;;")

    def test_wrong_numbers(self):
        self.assert_refused(
            "0;;0", "8;;0", "9;;0", "8;01;7", "7;;7", "1;;1", "3;03;0", "3;01;3", "3;13;0", "-1;;0", "+1;;0", "01;;0",
            "10;;0", "1 ;;0", " 1;;0", "1;;0 ", "1; ;0", "1;;00", "1.0;;0", "1_;;0", "1;;_0",
        )

    def test_wrong_ties(self):
        self.assert_refused(
            "3;00;0", "3;10;0", "3;12,01;0", "3;01,01;0", "3;0;0", "3;012;0", "3;0112;0", "3;01,;0", "3;,01;0", "3;,;0",
            "3;01,,12;0", "3;01, 12;0", "3;01.12;0", "3;0 1;0", "3;01;12;0", "3;0,1;0", "3;+1;0", "3;-1;0",
        )

    def test_wrong_rims(self):
        self.assert_refused("3;01;", "3;01;10", "3;01;00", "3;01;011", "3;01;0,1", "3;01;021", "3;01;0;", "3;01;;0")
        self.assert_refused("3;01;-0", "3;01;+0", "3;01; 0", "3;01;03", "3;01;0 1")

    def test_at_most_nine_ties(self):
        ties = ["".join(pair) for pair in combinations("01234", 2)]
        for many in range(11):
            self.check("5;" + ",".join(ties[:many]) + ";0")
        self.assertEqual(len(read("5;" + ",".join(ties[:9]) + ";0")[1]), 9)
        self.assert_refused("5;" + ",".join(ties) + ";0")

    def test_figures_of_other_scripts(self):
        self.assert_refused("\u0661;;0", "1;;\u0660", "2;0\u0661;0", "\u00b9;;0")

    def test_long_texts(self):
        self.assert_refused("1" * 5000 + ";;0", "1;;" + "0" * 5000, "3;" + "01," * 2000 + "12;0", ";" * 3000)


if __name__ == "__main__":
    unittest.main()
