"""Points 0.1, 0.2, 0.5, 0.9 and 1.3 to 1.5: amounts and their texts."""

import itertools
import random
import re

from toldstarts.base import amounts as module
from toldstarts.base.amounts import Amounts
from toldstarts.errors import InvalidAmounts, InvalidNumber, Lacking, UnknownName
from helper import Case, ODD, some

SIXTY = tuple([("k%02d" % at, 1) for at in range(60)])
MORE = SIXTY + (("z", 1),)
NO_KINDS = ("", "1", "1a", "A", "aB", "a b", "a-", "_a", "abcdefghi", "nothing", "a\n")
KINDS = ("a", "z9", "core", "abcdefgh", "a1234567", "nothing1", "nothin", "nothings")


class Making(Case):
    def test_constants(self):
        self.assertEqual((module.MAX_KINDS, module.MAX_AMOUNT), (60, 1000000))

    def test_pairs(self):
        for pairs in ((), (("core", 1),), (("core", 1000000), ("mem", 1)), (("a", 1), ("a1", 1), ("aa", 1)), SIXTY):
            self.assertEqual(Amounts(pairs).pairs, pairs)
            self.assertEqual(Amounts(pairs).kinds, tuple([kind for kind, number in pairs]))
        self.assertEqual(Amounts().pairs, ())
        for kind in KINDS:
            self.assertEqual(Amounts(((kind, 1),)).kinds, (kind,))

    def test_wrong_pairs(self):
        wrong = [value for value in ODD if value != ()] + [
            MORE, (("b", 1), ("a", 1)), (("a", 1), ("a", 1)), (("a", 0),), (("a", -1),), (("a", 1000001),),
            (("a", True),), (("a", "1"),), (("a", None),), (("a", 10 ** 70),), (("a",),), (("a", 1, 1),),
            [("a", 1)], (["a", 1],), ("a1",), ((1, "a"),), ((None, 1),), (((), 1),), ((Amounts(), 1),)]
        for value in wrong + [((kind, 1),) for kind in NO_KINDS]:
            self.refused(InvalidAmounts, Amounts, value)

    def test_amounts_never_change(self):
        one = some(core=4)
        with self.assertRaises(AttributeError):
            one.pairs = ()
        with self.assertRaises(AttributeError):
            one.kinds = ()
        self.assertEqual(str(one), "core 4")


class Looking(Case):
    def test_number_of_a_kind(self):
        one = some(core=8, mem=100)
        self.assertEqual([one["core"], one["mem"], one["gpu"], one["nothings"]], [8, 100, 0, 0])
        for kind in ODD + NO_KINDS:
            if kind not in ("x", "all"):
                self.assertIs(self.refused(UnknownName, one.__getitem__, kind).wanted, kind)

    def test_contains(self):
        one = some(core=8)
        self.assertIs("core" in one, True)
        for value in ODD + NO_KINDS + ("mem", ("core", 8), ["core"]):
            self.assertIs(value in one, False)

    def test_length_truth_and_iteration(self):
        self.assertEqual([len(Amounts()), len(some(a=1, b=2)), len(Amounts(SIXTY))], [0, 2, 60])
        self.assertEqual([bool(Amounts()), bool(some(a=1))], [False, True])
        self.assertEqual(list(some(b=2, a=1)), [("a", 1), ("b", 2)])
        self.assertEqual(list(Amounts()), [])

    def test_equality(self):
        self.assertIs(some(a=1) == Amounts((("a", 1),)), True)
        self.assertIs(some(a=1) != Amounts((("a", 1),)), False)
        for other in ODD + (some(a=2), some(b=1), some(a=1, b=1), Amounts(), (("a", 1),)):
            self.assertIs(some(a=1) == other, False)
            self.assertIs(some(a=1) != other, True)

    def test_str(self):
        self.assertEqual([str(Amounts()), str(some(core=4)), str(some(mem=100, core=4))],
                         ["nothing", "core 4", "core 4, mem 100"])


class Reckoning(Case):
    def test_covers_and_lacks(self):
        one, other = some(a=3, b=2), some(a=5, c=1)
        self.assertEqual([one.covers(other), one.covers(one), one.covers(Amounts()), Amounts().covers(one)],
                         [False, True, True, False])
        self.assertIs(some(a=5, b=1, c=1).covers(other), True)
        self.assertEqual(one.lacks(other), some(a=2, c=1))
        self.assertEqual(other.lacks(one), some(b=2))
        self.assertEqual(one.lacks(one), Amounts())
        for value in ODD:
            if not isinstance(value, Amounts):
                self.refused(InvalidAmounts, one.covers, value)
                self.refused(InvalidAmounts, one.lacks, value)
                self.refused(InvalidAmounts, one.times, value)

    def test_times(self):
        self.assertEqual(some(core=8, mem=100).times(some(core=2, mem=30)), 3)
        self.assertEqual(some(core=8).times(some(core=9)), 0)
        self.assertEqual(some(core=8).times(some(mem=1)), 0)
        self.assertEqual(some(core=1000000).times(some(core=1)), 1000000)
        self.refused(InvalidAmounts, some(core=8).times, Amounts())

    def test_sum(self):
        self.assertEqual(some(a=1, b=2) + some(b=3, c=4), some(a=1, b=5, c=4))
        self.assertEqual(some(a=999999) + some(a=1), some(a=1000000))
        self.refused(InvalidAmounts, some(a=1000000).__add__, some(a=1))
        self.assertEqual(len(Amounts(SIXTY) + Amounts(SIXTY)), 60)
        self.refused(InvalidAmounts, Amounts(SIXTY).__add__, some(z=1))

    def test_difference(self):
        self.assertEqual(some(a=3, b=2, c=1) - some(a=1, b=2), some(a=2, c=1))
        self.assertEqual(some(a=3) - some(a=3), Amounts())
        one = some(a=3, b=2)
        with self.assertRaises(Lacking) as caught:
            one - some(a=5, b=1, c=7)
        self.assertEqual(caught.exception.lacks, some(a=2, c=7))
        self.assertEqual(one, some(a=3, b=2))

    def test_product(self):
        self.assertEqual(some(a=3, b=2) * 4, some(a=12, b=8))
        self.assertEqual([some(a=3) * 0, some(a=3) * 1, Amounts() * (10 ** 60 - 1)], [Amounts(), some(a=3), Amounts()])
        self.assertEqual(some(a=500000) * 2, some(a=1000000))
        self.refused(InvalidAmounts, some(a=500001).__mul__, 2)
        self.refused(InvalidAmounts, some(a=1).__mul__, 10 ** 60 - 1)
        for number in (-1, -7, -(10 ** 60) + 1):
            self.assertEqual(self.refused(InvalidNumber, some(a=1).__mul__, number).given, number)
            self.assertEqual(self.refused(InvalidNumber, Amounts().__mul__, number).given, number)

    def test_operands_of_another_kind(self):
        one = some(a=1)
        for value in ODD:
            if not isinstance(value, Amounts):
                for call in (lambda: one + value, lambda: value + one, lambda: one - value, lambda: value - one,
                             lambda: value * one):
                    self.refused(TypeError, call)
            if isinstance(value, bool) or not isinstance(value, int) or abs(value) >= 10 ** 60:
                self.refused(TypeError, lambda: one * value)
        self.refused(TypeError, lambda: one * one)
        self.refused(TypeError, lambda: 2 * one)
        self.refused(TypeError, lambda: one < one)

    def test_cover_of(self):
        self.assertEqual(Amounts.cover_of(), Amounts())
        self.assertEqual(Amounts.cover_of(some(a=1, b=5), some(b=3, c=2), Amounts()), some(a=1, b=5, c=2))
        self.assertEqual(len(Amounts.cover_of(Amounts(SIXTY), Amounts(SIXTY))), 60)
        self.refused(InvalidAmounts, Amounts.cover_of, Amounts(SIXTY), some(z=1))
        for value in ODD:
            if not isinstance(value, Amounts):
                self.refused(InvalidAmounts, Amounts.cover_of, some(a=1), value)
                self.refused(InvalidAmounts, Amounts.cover_of, Amounts(SIXTY), some(z=1), value)

    def test_laws(self):
        values = [Amounts(tuple([(kind, number) for kind, number in zip("abc", numbers) if number]))
                  for numbers in itertools.product(range(3), repeat=3)]
        for one, other in itertools.product(values, repeat=2):
            lacks = one.lacks(other)
            self.assertEqual(one.covers(other), not lacks)
            self.assertEqual(one.covers(other), all([one[kind] >= other[kind] for kind in "abc"]))
            self.assertEqual((one + other) - other, one)
            self.assertEqual([lesser for lesser in values if (one + lesser).covers(other) and lacks.covers(lesser)],
                             [lacks])
            cover = Amounts.cover_of(one, other)
            self.assertEqual([cover[kind] for kind in "abc"], [max(one[kind], other[kind]) for kind in "abc"])
            if other:
                times = one.times(other)
                self.assertTrue(one.covers(other * times) and not one.covers(other * (times + 1)))
            if one.covers(other):
                self.assertEqual((one - other) + other, one)
            else:
                self.assertEqual(self.refused(Lacking, one.__sub__, other).lacks, lacks)


ENTRY = "[a-z][a-z0-9]{0,7} +[1-9][0-9]{0,6}"
TEXT = re.compile(" *(nothing|(?!nothing )%s( *, *(?!nothing )%s)*) *" % (ENTRY, ENTRY))


class Texts(Case):
    def test_texts(self):
        for text, one in (("nothing", Amounts()), ("  nothing   ", Amounts()), ("core 4", some(core=4)),
                          ("  core   4  ,mem 1", some(core=4, mem=1)), ("mem 1,core 4", some(core=4, mem=1)),
                          ("a 1000000", some(a=1000000)), ("nothing1 5", Amounts((("nothing1", 5),))),
                          ("nothings 5,nothin 2", Amounts((("nothin", 2), ("nothings", 5)))),
                          ("abcdefgh 1", some(abcdefgh=1)), ("a1b2 3", some(a1b2=3))):
            self.assertEqual(Amounts.of_text(text), one, text)

    def test_what_str_writes_is_read(self):
        chance = random.Random(1)
        for _ in range(200):
            kinds = sorted(chance.sample(KINDS + tuple([kind for kind, number in SIXTY]), chance.randrange(60)))
            one = Amounts(tuple([(kind, chance.choice((1, 9, 1000000, 123456))) for kind in kinds]))
            self.assertEqual(Amounts.of_text(str(one)), one)

    def test_no_string(self):
        for value in ODD:
            if not isinstance(value, str):
                self.wrong_at(None, Amounts.of_text, value)

    def test_wrong_signs(self):
        for text, spot in (("", 0), ("  ", 2), ("1", 0), ("Core 1", 0), ("core", 4), ("core ", 5), ("core,", 4),
                           ("core  x", 6), ("core 0", 5), ("core 01", 5), ("core -1", 5), ("core 1x", 6),
                           ("core 1 2", 7), ("core 1,", 7), ("core 1, ", 8), ("core 1,,", 7), (",core 1", 0),
                           ("core 1;", 6), ("abcdefghi 1", 8), ("abcdefgh1", 8), ("abcdefgh5,a 1", 8), ("abcdefgh", 8), ("core 12345678", 12), ("core\t1", 4),
                           ("co-re 1", 2), ("core 1\n", 6), ("core4", 5), ("~", 0), ("core 1 ,mem", 11)):
            self.wrong_at(spot, Amounts.of_text, text)

    def test_the_word_nothing(self):
        for text, spot in (("nothing 5", 8), ("nothing,", 7), ("nothing ,a 1", 8), ("nothing  a", 9), ("nothingab", 8),
                           ("a 1,nothing", 11), ("a 1, nothing 5", 12), ("a 1,nothing,", 11), ("nothin", 6),
                           ("a 1,nothing ", 11), ("nothing-", 7), ("a 1,nothingab", 12), ("a 1,nothing5", 12)):
            self.wrong_at(spot, Amounts.of_text, text)

    def test_what_is_wrong_behind_the_form(self):
        for text, spot in (("a 1,a 1", 4), ("b 2, a 1, b 3", 10), ("a 1000001", 2), ("a 9999999", 2),
                           ("a 1, b   1000001", 9), ("a 1,a 1000001", 4), ("a 1000001,a 1", 2), ("b 1000001,a 1,b 1", 2)):
            self.wrong_at(spot, Amounts.of_text, text)
        self.wrong_at(8, Amounts.of_text, "a 1,a 1 x")
        self.wrong_at(9, Amounts.of_text, "a 1000001x")

    def test_sixty_kinds_and_one_more(self):
        text = ", ".join(["%s %d" % pair for pair in SIXTY])
        self.assertEqual(Amounts.of_text(text), Amounts(SIXTY))
        self.wrong_at(len(text) + 2, Amounts.of_text, text + ", z 1")
        self.wrong_at(len(text) + 2, Amounts.of_text, text + ", z 1000001, k00 1")
        self.wrong_at(len(text) + 2, Amounts.of_text, text + ", k07 1, z 1")

    def test_all_short_texts(self):
        signs = "a10 ,"
        good = [text for size in range(1, 9) for text in map("".join, itertools.product(signs, repeat=size))
                if TEXT.fullmatch(text)]
        ahead = {text[:size] for text in good for size in range(len(text) + 1)}
        for size in range(6):
            for text in map("".join, itertools.product(signs + "-", repeat=size)):
                bad = [at for at in range(size) if text[:at + 1] not in ahead]
                if TEXT.fullmatch(text) is None:
                    self.wrong_at(bad[0] if bad else size, Amounts.of_text, text)
                elif text.count("a") == 1:
                    kind, number = text.replace(",", " ").split()
                    self.assertEqual(Amounts.of_text(text).pairs, ((kind, int(number)),), text)
