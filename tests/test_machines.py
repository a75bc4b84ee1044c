"""Points 3.1 to 3.3: machines, and texts of names."""

import functools
import itertools
import random
import re

from toldstarts.base.amounts import Amounts
from toldstarts.errors import InvalidMachine, TooMany
from toldstarts.house import machines as module
from toldstarts.house.machines import Machine, fold_names, is_machine_name, sorted_names, unfold_names
from helper import Case, ODD, some

NAME = re.compile("[a-z]{1,8}(0|[1-9][0-9]{0,3})?")
INDEX = "(0|[1-9][0-9]{0,3})"
NO_WORDS = ("", "A", "a1", "abcdefghi", "a b", "a-", " a", "a\n")
GOOD_NAMES = ("m", "m0", "m17", "m9999", "abcdefgh", "abcdefgh9999", "all", "a10")
NO_NAMES = ("", "1", "m01", "m00", "m10000", "abcdefghi", "M", "m-1", "m 1", "m1a", " m", "m1\n", "m[1]", "m1,m2", "_")


class Machines(Case):
    def test_constants(self):
        self.assertEqual((module.MAX_MARKS, module.MAX_NAMES), (8, 1000))

    def test_properties(self):
        one = Machine("m17", some(core=4), marks=("big", "new"), rack="east")
        self.assertEqual((one.name, one.amounts, one.marks, one.rack), ("m17", some(core=4), ("big", "new"), "east"))
        plain = Machine("m", Amounts())
        self.assertEqual((plain.name, plain.amounts, plain.marks, plain.rack), ("m", Amounts(), (), "main"))
        self.assertEqual([str(one), str(plain)], ["m17 in east", "m in main"])
        self.assertEqual(Machine("all", Amounts(), rack="all").rack, "all")
        for name in ("name", "amounts", "marks", "rack"):
            with self.assertRaises(AttributeError):
                setattr(one, name, "m1")
        self.assertRaises(TypeError, iter, one)

    def test_marks_and_racks(self):
        for marks in ((), ("a",), ("a", "aa", "b"), tuple("abcdefgh"), ("abcdefgh",)):
            self.assertEqual(Machine("m", Amounts(), marks=marks).marks, marks)
        wrong = [value for value in ODD if value != ()] + [
            tuple("abcdefghi"), ("b", "a"), ("a", "a"), ("all",), ("a", "all"), ["a"], "a", ("a", 1), (None,)]
        for value in wrong + [(word,) for word in NO_WORDS]:
            self.refused(InvalidMachine, Machine, "m", Amounts(), marks=value)
        for value in [one for one in ODD if one not in ("x", "all", "nothing")] + list(NO_WORDS):
            self.refused(InvalidMachine, Machine, "m", Amounts(), rack=value)

    def test_wrong_names_and_amounts(self):
        for value in [one for one in ODD if one not in ("x", "all", "nothing")] + list(NO_NAMES):
            self.refused(InvalidMachine, Machine, value, Amounts())
        for value in ODD:
            if not isinstance(value, Amounts):
                self.refused(InvalidMachine, Machine, "m", value)

    def test_equality(self):
        def made(name="m1", amounts=some(core=1), marks=("a",), rack="x"):
            return Machine(name, amounts, marks=marks, rack=rack)

        self.assertIs(made() == made(), True)
        self.assertIs(made() != made(), False)
        for other in ODD + (made(name="m2"), made(amounts=some(core=2)), made(marks=()), made(rack="y")):
            self.assertIs(made() == other, False)
            self.assertIs(made() != other, True)


class Names(Case):
    def test_is_machine_name(self):
        for value in GOOD_NAMES:
            self.assertIs(is_machine_name(value), True, value)
        for value in NO_NAMES:
            self.assertIs(is_machine_name(value), False, value)
        for value in ODD:
            self.assertIs(is_machine_name(value), value in ("x", "all", "nothing"))
        for size in range(5):
            for value in map("".join, itertools.product("am09-A", repeat=size)):
                self.assertIs(is_machine_name(value), NAME.fullmatch(value) is not None, value)

    def test_sorted_names(self):
        for names, ordered in (((), ()), (("m10", "m9", "m", "m1", "gpu3", "m2"), ("gpu3", "m", "m1", "m2", "m9", "m10")),
                               (("b", "a10", "a", "aa", "a10", "a9"), ("a", "a9", "a10", "aa", "b")),
                               (("m0", "m", "m0"), ("m", "m0"))):
            self.assertEqual(sorted_names(names), ordered)

    def test_wrong_names(self):
        thousand = tuple(["m%d" % at for at in range(1000)])
        self.assertEqual(sorted_names(thousand[::-1]), thousand)
        self.assertEqual(fold_names(thousand), "m[0-999]")
        wrong = [value for value in ODD if value != ()] + [thousand + ("m",), ("m",) * 1001, ["m"], "m", ("m", 1)]
        for value in wrong + [("m", name) for name in NO_NAMES]:
            self.refused(InvalidMachine, sorted_names, value)
            self.refused(InvalidMachine, fold_names, value)

    def test_fold_names(self):
        for names, text in (((), ""), (("m",), "m"), (("m7",), "m7"), (("m", "m7"), "m,m7"), (("m1", "m2"), "m[1-2]"),
                            (("m1", "m3"), "m[1,3]"), (("m", "m0", "m1", "m3", "a5", "z"), "a5,m,m[0-1,3],z"),
                            (("m9", "m10", "m11", "m13", "m99", "m100"), "m[9-11,13,99-100]"),
                            (("m10", "m9", "m", "m1", "gpu3", "m2"), "gpu3,m,m[1-2,9-10]"),
                            (("m9998", "m9999", "m9999"), "m[9998-9999]"), (("b1", "ab1", "a1", "a2"), "a[1-2],ab1,b1")):
            self.assertEqual(fold_names(names), text)

    def test_unfold_names(self):
        for text, names in (("", ()), ("m", ("m",)), ("b,m[3,1-2],m2", ("b", "m1", "m2", "m3")), ("m[5]", ("m5",)),
                            ("m[0-1,0-2],m,m", ("m", "m0", "m1", "m2")), ("m9999,m[9998-9999]", ("m9998", "m9999")),
                            ("abcdefgh[1]", ("abcdefgh1",)), ("m[7-30]", tuple(["m%d" % at for at in range(7, 31)])),
                            ("z1,a,m[2]", ("a", "m2", "z1"))):
            self.assertEqual(unfold_names(text), names, text)

    def test_what_is_folded_is_unfolded(self):
        chance = random.Random(6)
        for _ in range(300):
            pool = [stem + index for stem in ("a", "ab", "m", "zz") for index in [""] + [str(at) for at in range(14)]]
            names = tuple(chance.choices(pool, k=chance.randrange(30)))
            text = fold_names(names)
            self.assertEqual(unfold_names(text), sorted_names(names))
            self.assertEqual(fold_names(unfold_names(text)), text)
            self.assertEqual(text, folded(names))

    def test_wrong_texts(self):
        for text, spot in (("m[7-3]", 5), ("m[5000-4]", 7), ("m[9999-", 6), ("m,", 2), (",", 0), ("1", 0), ("m[", 2),
                           ("m[]", 2), ("m[1", 3), ("m[1,", 4), ("m[1,]", 4), ("m[1-", 4), ("m[1-]", 4), ("m[01]", 3),
                           ("m01", 2), ("m10000", 5), ("m[10000]", 6), ("abcdefghi", 8), ("m [1]", 1), (" m", 0),
                           ("m ", 1), ("m, n", 2), ("m1[2]", 2), ("m[1]2", 4), ("m[1]m", 4), ("m[1]]", 4), ("m]", 1),
                           ("m[1-2-3]", 5), ("m[0-0", 4), ("m[5-05]", 4), ("m[7-7]", 5), ("m[7-7", 5), ("m[70-7]", 6),
                           ("m[70-69]", 7), ("m[799-79", 8), ("m[7999-79", 7), ("m[7989-79", 9), ("m[7989-798", 9), ("m[9998-9998", 10), ("m[12-3", 6),
                           ("m[1[2]]", 3), ("M", 0), ("m-1", 1), ("m[1-2,3-2]", 9), ("m[9998-99999]", 11),
                           ("m[1-10000]", 8), ("m\n", 1), ("m,,m", 2), ("m[a]", 2), ("m[999-9]", 7), ("m[9990-998", 9)):
            self.wrong_at(spot, unfold_names, text)
        for value in ODD:
            if not isinstance(value, str):
                self.wrong_at(None, unfold_names, value)

    def test_a_thousand_names_and_one_more(self):
        self.assertEqual(len(unfold_names("m[0-999]")), 1000)
        self.assertEqual(len(unfold_names("m,m[0-998]")), 1000)
        self.assertEqual(len(unfold_names(",".join(["m[0-999]"] * 440))), 1000)
        self.assertEqual(len(unfold_names("m[0-499,400-899,900-999,0]")), 1000)
        for text in ("m[0-1000]", "m,m[0-999]", "m[0-9999]", "a[0-499],b[0-500]", "m[0-998],a,b", "m[0-600,500-1000]"):
            self.assertEqual(self.refused(TooMany, unfold_names, text).most, 1000)
        self.wrong_at(10, unfold_names, "m[0-9999],")

    def test_all_short_texts(self):
        signs = "m19[]-,"
        for size in range(6):
            for text in map("".join, itertools.product(signs, repeat=size)):
                self.look_at(text)
        chance = random.Random(7)
        for _ in range(3000):
            size = chance.randrange(1, 6)
            self.look_at("m[" + "".join(chance.choices("0123456789", k=size)) + "-"
                         + "".join(chance.choices("0123456789", k=chance.randrange(6))) + chance.choice(("]", ",1]", "")))

    def look_at(self, text):
        """Hold what is told of a text against 3.3."""
        spots = [at for at in range(len(text)) if not may_go_on(text[:at + 1])]
        if spots or not is_text(text):
            self.wrong_at(spots[0] if spots else len(text), unfold_names, text)
            return
        try:
            self.assertEqual(set(unfold_names(text)), told_names(text))
        except TooMany:
            self.assertGreater(len(told_names(text)), 1000)


def folded(names):
    """The folded text of some names, straight from the words of 3.2."""
    entries = []
    for stem in sorted(set([name.strip("0123456789") for name in names])):
        indices = sorted(set([int(name[len(stem):]) for name in names if re.fullmatch(stem + "[0-9]+", name)]))
        entries += [stem] if stem in names else []
        entries += [stem + str(indices[0])] if len(indices) == 1 else []
        if len(indices) > 1:
            runs = [list(run) for _, run in itertools.groupby(indices, key=lambda at: at - indices.index(at))]
            entries.append(stem + "[" + ",".join(
                [str(run[0]) if len(run) == 1 else "%d-%d" % (run[0], run[-1]) for run in runs]) + "]")
    return ",".join(entries)


def entries_of(text):
    """The entries of a text: what stands between the commas that are in no brackets."""
    return re.sub(r",(?![^\[]*\])", ";", text).split(";")


def is_run(text):
    found = re.fullmatch(INDEX + "(?:-" + INDEX + ")?", text)
    return found is not None and (found[2] is None or int(found[1]) < int(found[2]))


def is_entry(text):
    found = re.fullmatch(r"[a-z]{1,8}\[(.*)\]", text)
    return NAME.fullmatch(text) is not None or found is not None and all([is_run(run) for run in found[1].split(",")])


def is_text(text):
    return text == "" or all([is_entry(entry) for entry in entries_of(text)])


def may_go_on(text):
    """Whether some text of names begins with a text."""
    if "[" not in text or text.rfind("]") > text.rfind("["):
        *whole, last = entries_of(text) if "]" not in text else entries_of(text)
        begins = last == "" or NAME.fullmatch(last) is not None or is_entry(last)
        return all([is_entry(entry) for entry in whole]) and begins
    ahead, inside = text[:text.rindex("[")], text[text.rindex("[") + 1:]
    *whole, stem = entries_of(ahead)
    *runs, run = inside.split(",")
    if not all([is_entry(entry) for entry in whole]) or re.fullmatch("[a-z]{1,8}", stem) is None:
        return False
    first, joint, second = run.partition("-")
    if not all([is_run(one) for one in runs]) or not (first == "" and not joint or re.fullmatch(INDEX, first)):
        return False
    if not joint:
        return True
    return may_end(int(first), second)


@functools.lru_cache(None)
def may_end(first, digits):
    """Whether an index that is greater than another one begins with some digits."""
    return any([str(number).startswith(digits) for number in range(first + 1, 10000)])


def told_names(text):
    """The names that a right text tells."""
    found = set()
    for entry in entries_of(text) if text else ():
        stem, bracket, inside = entry.partition("[")
        if not bracket:
            found.add(entry)
            continue
        for run in inside[:-1].split(","):
            first, joint, second = run.partition("-")
            found.update([stem + str(at) for at in range(int(first), int(second or first) + 1)])
    return found
