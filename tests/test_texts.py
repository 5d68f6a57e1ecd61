"""towerrow.texts: points [1] and [7]."""

import itertools
import unittest

from plain import deep_list, list_in_itself, mixed_state, no_states, other_kinds, states
from refusals import RefusalCase
from towerrow.errors import BadState, BadText
from towerrow.texts import read, written


class Answers(unittest.TestCase):
    def test_every_state_of_few_discs_both_ways(self):
        for discs in range(1, 7):
            for state in states(discs):
                text = ""
                for peg in state:
                    text = "012"[peg] + text
                with self.subTest(state=state):
                    self.assertEqual(written(state), text)
                    self.assertEqual(read(text), state)

    def test_no_discs(self):
        self.assertEqual(written([]), "-")
        self.assertEqual(read("-"), [])

    def test_by_hand(self):
        self.assertEqual(written([0, 1, 2, 2]), "2210")
        self.assertEqual(read("2210"), [0, 1, 2, 2])
        self.assertEqual(written([1]), "1")
        self.assertEqual(read("0001"), [1, 0, 0, 0])

    def test_many_discs(self):
        for state in ([0] * 700, [2] * 700, mixed_state(6000, 3)):
            self.assertEqual(len(written(state)), len(state))
            # No assertEqual: to show how such long texts differ takes it very long.
            self.assertTrue(read(written(state)) == state)
        self.assertTrue(written([0] + [2] * 6000) == "2" * 6000 + "0")

    def test_kinds(self):
        for state in states(3) + [[]]:
            text = written(state)
            self.assertIs(type(text), str)
            told = read(text)
            self.assertIs(type(told), list)
            for peg in told:
                self.assertIs(type(peg), int)


class Handed(RefusalCase):
    def test_the_state_is_not_changed(self):
        for state in states(3) + [[]]:
            before = list(state)
            written(state)
            self.assertEqual(state, before)
        state = [0, 3, 1]
        self.assertRefused(BadState, written, state)
        self.assertEqual(state, [0, 3, 1])

    def test_a_list_handed_to_read_is_not_changed(self):
        handed = ["0", 1]
        self.assertRefused(BadText, read, handed)
        self.assertEqual(handed, ["0", 1])

    def test_what_is_told_is_new(self):
        for text in ("-", "0", "012"):
            told = read(text)
            before = list(told)
            told.append(1)
            self.assertEqual(read(text), before)


class Refusals(RefusalCase):
    def test_written_of_no_state(self):
        for place, state in enumerate(no_states()):
            with self.subTest(place=place):
                self.assertRefused(BadState, written, state)

    def test_read_of_each_other_short_text(self):
        signs = [chr(code) for code in range(127)]
        for length in range(3):
            for parts in itertools.product(signs, repeat=length):
                text = "".join(parts)
                if text == "-" or (text and set(text) <= set("012")):
                    self.assertEqual(written(read(text)), text)
                else:
                    with self.subTest(text=text):
                        self.assertRefused(BadText, read, text)

    def test_read_of_other_texts(self):
        for text in ("", "--", "-0", "0-", "3", "0 1", " 0", "0 ", "0\n", "\n0", "-\n", " -", "- ", "\t0", "0\t", "+1",
                     "-1", "01x2", "0,1", "[]", "[0]", "0_1", "0.0", "1e1", "0x1", "0120123", "012\0", "free", "None",
                     "0" * 500 + "3", "3" + "0" * 500, "0" * 250 + " " + "0" * 250):
            with self.subTest(text=text):
                self.assertRefused(BadText, read, text)

    def test_read_of_what_is_no_text(self):
        kinds = [kind for kind in other_kinds() if not isinstance(kind, str)]
        more = [0, 1, 2, 10, [], ["0"], ["-"], [0, 1], ("0",), b"0", b"-", bytearray(b"0"), {"0": 0}, {"0"},
                deep_list(), list_in_itself()]
        for place, value in enumerate(kinds + more):
            with self.subTest(place=place):
                self.assertRefused(BadText, read, value)


if __name__ == "__main__":
    unittest.main()
