"""Open rows: points 10 and 11; rows up to their bound (8)."""

import random
import unittest

from deedwright.openrows import behind, filled, joined, opened, within, without

# Three deeds show all: what an operation does to one deed hangs on that deed alone, or else a test fails.
SMALL = range(8)
PAIRS = [(own, lets) for own in SMALL for lets in SMALL]
NORMAL = [(own, lets) for own, lets in PAIRS if own & lets == 0]
GREATEST = 2**200 - 1


def deeds(row):
    return {k for k in range(row.bit_length()) if row >> k & 1}


def out_of(one, r):
    """What comes out, as a set of numbers, written apart from the program."""
    return deeds(one[0]) | deeds(one[1]) & deeds(r)


def tells(one):
    """What comes out for every small r."""
    return [out_of(one, r) for r in SMALL]


TELLS = {one: tells(one) for one in PAIRS}


def great_pairs(count):
    chance = random.Random(11)
    rows = [0, 1, 2**199, GREATEST, GREATEST - 1, GREATEST // 3, GREATEST // 3 * 2, 2**64, 2**63 - 1]
    rows += [chance.randrange(2**200) for turn in range(6)]
    return [(chance.choice(rows), chance.choice(rows)) for turn in range(count)]


class OpenRowCase(unittest.TestCase):
    def normal(self, one):
        self.assertIs(type(one), tuple)
        self.assertEqual([type(row) for row in one], [int, int])
        self.assertGreaterEqual(min(one), 0)
        self.assertEqual(one[0] & one[1], 0)


class Opened(OpenRowCase):
    def test_some(self):
        for own, lets, one in ((0, 0, (0, 0)), (1, 2, (1, 2)), (1, 1, (1, 0)), (1, 3, (1, 2)), (7, 7, (7, 0)),
                               (0, 5, (0, 5)), (5, 0, (5, 0)), (6, 5, (6, 1))):
            self.assertEqual(opened(own, lets), one)

    def test_normal_form_that_tells_the_same(self):
        for own, lets in PAIRS:
            one = opened(own, lets)
            self.normal(one)
            self.assertEqual(tells(one), TELLS[own, lets])

    def test_equal_just_where_they_tell_the_same(self):
        for one in PAIRS:
            for other in PAIRS:
                self.assertEqual(opened(*one) == opened(*other), TELLS[one] == TELLS[other])

    def test_what_is_normal_stays(self):
        for one in NORMAL:
            self.assertEqual(opened(*one), one)

    def test_great_rows(self):
        self.assertEqual(opened(2**199, GREATEST), (2**199, 2**199 - 1))
        self.assertEqual(opened(GREATEST, GREATEST), (GREATEST, 0))
        self.assertEqual(opened(0, GREATEST), (0, GREATEST))


class Filled(OpenRowCase):
    def test_some(self):
        for one, r, row in (((0, 0), 7, 0), ((1, 2), 0, 1), ((1, 2), 2, 3), ((1, 2), 4, 1), ((1, 6), 4, 5),
                            ((0, 7), 5, 5), ((5, 0), 2, 5), ((1, 1), 0, 1), ((1, 3), 2, 3)):
            self.assertEqual(filled(one, r), row)
            self.assertIs(type(filled(one, r)), int)

    def test_all_small(self):
        for one in PAIRS:
            self.assertEqual([deeds(filled(one, r)) for r in SMALL], TELLS[one])

    def test_great_rows(self):
        self.assertEqual(filled((1, 2**199), GREATEST), 2**199 + 1)
        self.assertEqual(filled((0, GREATEST), GREATEST), GREATEST)
        for one in great_pairs(100):
            for r in (0, 1, GREATEST, 2**199, GREATEST // 3):
                self.assertEqual(deeds(filled(one, r)), out_of(one, r))


class Operations(OpenRowCase):
    def test_some(self):
        self.assertEqual(joined((1, 2), (2, 4)), (3, 4))
        self.assertEqual(joined((0, 0), (0, 0)), (0, 0))
        self.assertEqual(joined((0, 3), (1, 4)), (1, 6))
        self.assertEqual(without((3, 4), 5), (2, 0))
        self.assertEqual(without((3, 4), 0), (3, 4))
        self.assertEqual(without((1, 3), 1), (0, 2))
        self.assertEqual(behind((1, 6), (2, 5)), (3, 4))
        self.assertEqual(behind((2, 5), (1, 6)), (3, 4))
        self.assertEqual(behind((1, 0), (6, 0)), (1, 0))
        self.assertEqual(behind((6, 0), (1, 0)), (6, 0))
        self.assertEqual(behind((0, 7), (2, 5)), (2, 5))
        self.assertEqual(behind((2, 5), (0, 7)), (2, 5))

    def test_joined(self):
        for one in PAIRS:
            for other in PAIRS:
                both = joined(one, other)
                self.normal(both)
                self.assertEqual(tells(both), [a | b for a, b in zip(TELLS[one], TELLS[other])])

    def test_without(self):
        for one in PAIRS:
            for row in SMALL:
                left = without(one, row)
                self.normal(left)
                self.assertEqual(tells(left), [out - deeds(row) for out in TELLS[one]])

    def test_behind(self):
        for one in PAIRS:
            for other in PAIRS:
                put = behind(one, other)
                self.normal(put)
                through = [sum(2**k for k in out) for out in TELLS[other]]
                self.assertEqual(tells(put), [out_of(one, row) for row in through])

    def test_within(self):
        for one in PAIRS:
            for other in PAIRS:
                told = all(a <= b for a, b in zip(TELLS[one], TELLS[other]))
                self.assertIs(within(one, other), told)

    def test_within_some(self):
        self.assertIs(within((0, 1), (1, 0)), True)
        self.assertIs(within((1, 0), (0, 1)), False)
        self.assertIs(within((0, 0), (0, 0)), True)
        self.assertIs(within((0, 3), (1, 2)), True)
        self.assertIs(within((0, 3), (0, 2)), False)
        self.assertIs(within((1, 1), (1, 0)), True)

    def test_great_rows(self):
        pairs = great_pairs(40)
        tried = [0, 1, GREATEST, 2**199, GREATEST // 3, 2**64]
        for one in pairs:
            for other in pairs:
                both, put = joined(one, other), behind(one, other)
                left = without(one, other[0])
                for result in (both, put, left):
                    self.normal(result)
                for r in tried:
                    self.assertEqual(out_of(both, r), out_of(one, r) | out_of(other, r))
                    self.assertEqual(out_of(left, r), out_of(one, r) - deeds(other[0]))
                    self.assertEqual(out_of(put, r), out_of(one, filled(other, r)))
                # With nothing and with all going in, each deed is looked at in either case.
                held = all(out_of(one, r) <= out_of(other, r) for r in (0, GREATEST))
                self.assertIs(within(one, other), held)
            self.assertIs(within(one, one), True)
            self.assertIs(within(one, (GREATEST, 0)), True)
            self.assertIs(within((0, 0), one), True)

    def test_the_same_again(self):
        for turn in range(3):
            self.assertEqual(joined((1, 3), (4, 4)), (5, 2))
            self.assertEqual(behind((1, 3), (4, 4)), (1, 0))
            self.assertEqual(without((1, 3), 2), (1, 0))
            self.assertEqual(opened(1, 3), (1, 2))
            self.assertEqual(filled((1, 3), 2), 3)


if __name__ == "__main__":
    unittest.main()
