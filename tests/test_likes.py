"""Points 6.1 to 6.6: rows of like jobs."""

import itertools
import random
import re

from toldstarts.base.amounts import Amounts
from toldstarts.errors import InvalidJob, InvalidNumber, ParseError, TooMany, UnknownName
from toldstarts.jobs import likes as module
from toldstarts.jobs.likes import Row, fold_indices, fold_states, unfold_indices, unfold_states
from helper import Case, ODD, a_job, some

ROW = Row(7, (1, 2, 3, 5, 9), at_once=2)
NUMBER = "(0|[1-9][0-9]{0,3})"
ENTRY = "%s(-%s(:%s)?)?" % (NUMBER, NUMBER, NUMBER)
NO_INTEGERS = [value for value in ODD if isinstance(value, bool) or not isinstance(value, int)]


def told_by(text):
    """6.1 from its words: what each entry of a right text tells."""
    found = []
    for entry in text.split(","):
        ends, _, step = entry.partition(":")
        first, _, last = ends.partition("-")
        found.append(list(range(int(first), int(last or first) + 1, int(step or 1))))
    return found


def all_texts(entries, least):
    """All ordered texts of some entries whose indices are all greater than a bound."""
    found = [("", ())]
    for text, indices in entries:
        if indices[0] > least:
            for rest, more in all_texts([row for row in entries if row[1][0] > indices[-1]], indices[-1]):
                found.append((text + "," + rest if rest else text, indices + more))
    return found


class Indices(Case):
    def test_constants(self):
        self.assertEqual((module.MAX_PARTS, module.MAX_INDEX, module.MAX_LINES), (60, 9999, 1000))

    def test_examples(self):
        self.assertEqual([fold_indices((1, 2, 3, 5, 9)), fold_indices((4, 5)), fold_indices((0, 4, 8, 12, 16)), unfold_indices("3,1-9:4,1")],
                         ["1-3,5,9", "4,5", "0-16:4", (1, 3, 5, 9)])

    def test_folding(self):
        for indices, text in (((0,), "0"), ((9999,), "9999"), ((0, 9999), "0,9999"), ((1, 3, 5), "1,3,5"), ((1, 3, 5, 7), "1-7:2"), ((8, 9, 10), "8-10"),
                              (tuple(range(60)), "0-59"), (tuple(range(9940, 10000)), "9940-9999"), (tuple(range(0, 60 * 169, 169))[:60], "0-9971:169"),
                              ((1, 2, 3, 5, 7, 9), "1,2,3-9:2"), ((10, 12, 14), "10-14:2"), ((98, 99, 100, 101), "98-101"), ((0, 1, 2, 3, 6, 9), "0-3,6,9"),
                              ((0, 100, 200), "0,100,200"), ((10, 110, 210), "10,110,210"), ((99, 108, 117), "99-117:9"), ((0, 1000, 2000), "0,1000,2000"), ((0, 1000, 2000, 3000), "0-3000:1000")):
            self.assertEqual(fold_indices(indices), text)

    def test_least_texts_against_all_texts(self):
        """All ordered texts of the indices up to a bound, with every right entry, also such as `0-5:4`."""
        entries = [(str(a), (a,)) for a in range(12)]
        for a in range(12):
            for b in range(a + 1, 12):
                entries.append(("%d-%d" % (a, b), tuple(range(a, b + 1))))
                entries.extend([("%d-%d:%d" % (a, b, s), tuple(range(a, b + 1, s))) for s in range(1, 13)])
        # Of several entries that tell the same only the best one can stand in a least text.
        best = {}
        for text, indices in sorted(entries, key=lambda row: (len(row[0]), row[0])):
            best.setdefault(indices, text)
        entries = [(text, indices) for indices, text in best.items()]
        least = {}
        for text, indices in all_texts(entries, -1):
            if indices and (indices not in least or (len(text), text) < (len(least[indices]), least[indices])):
                least[indices] = text
        self.assertEqual(len(least), 2 ** 12 - 1)
        for indices, text in least.items():
            self.assertEqual(fold_indices(indices), text)

    def test_what_is_folded_is_unfolded(self):
        chance = random.Random(61)
        for _ in range(400):
            step = chance.choice((1, 1, 2, 3, 10, 100))
            base = chance.randrange(0, 9000)
            indices = tuple(sorted(set([min(9999, base + step * chance.randrange(80)) for _ in range(chance.randrange(1, 61))])))
            text = fold_indices(indices)
            self.assertEqual(unfold_indices(text), indices)
            parts = told_by(text)
            self.assertEqual(tuple([index for part in parts for index in part]), indices)
            entries = text.split(",")
            chance.shuffle(entries)
            self.assertEqual(unfold_indices(",".join(entries + entries[:2])), indices)

    def test_no_indices(self):
        for value in ODD + ([1], (2, 1), (1, 1), (0, 10000), (-1,), (True,), (1, None), ("1",), tuple(range(61)), (1, 10 ** 70), {1: 1}):
            if value != (1,):
                self.refused(InvalidJob, fold_indices, value)
                self.refused(InvalidJob, Row, 7, value)

    def test_unfolding(self):
        for text, indices in (("0", (0,)), ("9999", (9999,)), ("5,3,4", (3, 4, 5)), ("1-5:2", (1, 3, 5)), ("1-6:2", (1, 3, 5)), ("1-2:9999", (1,)),
                              ("0-9999:170", tuple(range(0, 9999, 170))), ("3,3,3-4,1-4", (1, 2, 3, 4)), ("0-59,0-59,59", tuple(range(60)))):
            self.assertEqual(unfold_indices(text), indices, text)

    def test_wrong_texts(self):
        for text, spot in (("", 0), (" ", 0), ("x", 0), ("-1", 0), (",", 0), ("1,", 2), ("1,,2", 2), ("1 ", 1), ("1, 2", 2), ("01", 1), ("00", 1),
                           ("12345", 4), ("1-", 2), ("1--2", 2), ("1-2-3", 3), ("1-2:", 4), ("1-2:3:4", 5), ("1-2:3-4", 5), ("1:2", 1), ("1-02", 3),
                           ("1-2:01", 5), ("1-12345", 6), ("1-2:12345", 8), ("1-2,", 4), ("1-2,x", 4), ("[1]", 0), ("1\n", 1), ("1.2", 1), ("2-1x", 3),
                           ("2-1,", 4), ("1-2:0,", 6), ("5-5,?", 4)):
            self.wrong_at(spot, unfold_indices, text)
        for text, spot in (("2-1", 2), ("5-5", 2), ("0-0", 2), ("1-2:0", 4), ("5-3:0", 2), ("1,7-10:0,3-2", 7), ("1-2,9999-9998", 9), ("10-9:5", 3),
                           ("0-9999,3-3", 9)):
            self.wrong_at(spot, unfold_indices, text)
        for value in ODD:
            if not isinstance(value, str):
                self.wrong_at(None, unfold_indices, value)

    def test_all_short_texts(self):
        for size in range(6):
            for text in map("".join, itertools.product("105-:,", repeat=size)):
                if re.fullmatch("%s(,%s)*" % (ENTRY, ENTRY), text) is None:
                    bad = [at for at in range(size) if not self.goes_on(text[:at + 1])]
                    self.wrong_at(bad[0] if bad else size, unfold_indices, text)
                    continue
                wrong = []
                for found in re.finditer(ENTRY, text):
                    if found.group(3) is not None and int(found.group(1)) >= int(found.group(3)):
                        wrong.append(found.start(3))
                    if found.group(5) == "0":
                        wrong.append(found.start(5))
                if wrong:
                    self.wrong_at(wrong[0], unfold_indices, text)
                    continue
                told = tuple(sorted(set([index for part in told_by(text) for index in part])))
                if len(told) > 60:
                    self.assertEqual(self.refused(TooMany, unfold_indices, text).most, 60)
                else:
                    self.assertEqual(unfold_indices(text), told)

    def goes_on(self, text):
        return any([re.fullmatch("%s(,%s)*" % (ENTRY, ENTRY), text + more) for more in ("", "1")])

    def test_sixty_indices_and_one_more(self):
        for text in ("0-60", "0-9999", "0-58,60,70", "0-59,60", "0-9999:166", ",".join([str(at) for at in range(61)]), "0-9999," * 500 + "1"):
            self.assertEqual(self.refused(TooMany, unfold_indices, text).most, 60, text)
        self.assertEqual(len(unfold_indices("0-58,60")), 60)
        self.wrong_at(7, unfold_indices, "0-60,5-5")


class Rows(Case):
    def test_example(self):
        self.assertEqual([ROW.numbers, ROW.kind, str(ROW.amounts), ROW.number_of(5), ROW.index_of(11), ROW.part_name(9)],
                         [(7, 8, 9, 10, 11), "r7", "r7 2", 10, 9, "7.3"])

    def test_properties(self):
        plain = Row(999000, tuple(range(60)))
        self.assertEqual((plain.first, plain.indices, plain.at_once, plain.numbers, plain.kind, plain.amounts),
                         (999000, tuple(range(60)), None, tuple(range(999000, 999060)), None, Amounts()))
        row = Row(999000, (0, 9999), at_once=2)
        self.assertEqual((row.first, row.indices, row.at_once, row.numbers, row.kind, row.amounts),
                         (999000, (0, 9999), 2, (999000, 999001), "r999000", some(r999000=2)))
        self.assertEqual((Row(1, (4,), at_once=1).numbers, Row(1, (4,), at_once=1).amounts), ((1,), some(r1=1)))
        for name in ("first", "indices", "at_once", "numbers", "kind", "amounts"):
            with self.assertRaises(AttributeError):
                setattr(row, name, 1)

    def test_texts_lengths_and_iteration(self):
        self.assertEqual([str(ROW), str(Row(7, (1, 2))), str(Row(8, (3,), at_once=1))],
                         ["row 7 of 5 parts, 2 at once", "row 7 of 2 parts", "row 8 of 1 parts, 1 at once"])
        self.assertEqual([len(ROW), list(ROW), len(Row(1, (0,)))], [5, [7, 8, 9, 10, 11], 1])
        for value in (7, 8, 11):
            self.assertIs(value in ROW, True)
        for value in [one for one in ODD if one is not True and one != 7] + [6, 12, "7", (7,)]:
            self.assertIs(value in ROW, False)
        self.assertIs(True in Row(1, (5,)), False)

    def test_numbers_and_indices(self):
        for index, number in zip(ROW.indices, ROW.numbers):
            self.assertEqual((ROW.number_of(index), ROW.index_of(number), ROW.part_name(number)), (number, index, "7.%d" % index))
        for value in ODD + (4, 6, 10, -1, "1"):
            if value is True or value not in ROW.indices:
                self.assertIs(self.refused(UnknownName, ROW.number_of, value).wanted, value)
        for value in ODD + (6, 12, "7", (7,)):
            if value != 7:
                self.assertIs(self.refused(UnknownName, ROW.index_of, value).wanted, value)
                self.assertIs(self.refused(UnknownName, ROW.part_name, value).wanted, value)

    def test_errors_in_their_order(self):
        for value in NO_INTEGERS + [0, -1, 999001, 10 ** 60]:
            self.assertIs(self.refused(InvalidNumber, Row, value, (1, 2)).given, value)
            self.assertIs(self.refused(InvalidNumber, Row, value, None, at_once=0).given, value)
        for value in ODD:
            if value != (1,):
                self.refused(InvalidJob, Row, 1, value, at_once=0)
        for value in [one for one in NO_INTEGERS if one is not None] + [0, -1, 3, 10 ** 60]:
            self.assertIs(self.refused(InvalidNumber, Row, 1, (1, 2), at_once=value).given, value)

    def test_equality(self):
        self.assertIs(ROW == Row(7, (1, 2, 3, 5, 9), at_once=2), True)
        self.assertIs(ROW != Row(7, (1, 2, 3, 5, 9), at_once=2), False)
        for value in ODD + (Row(8, (1, 2, 3, 5, 9), at_once=2), Row(7, (1, 2, 3, 5, 8), at_once=2), Row(7, (1, 2, 3, 5, 9), at_once=3),
                            Row(7, (1, 2, 3, 5, 9)), Row(7, (1, 2, 3, 5), at_once=2), (7, 8, 9, 10, 11)):
            self.assertIs(ROW == value, False)
            self.assertIs(ROW != value, True)

    def test_parts(self):
        job = a_job(tokens=some(lic=1))
        self.assertEqual(ROW.part(job), job.changed(tokens=some(lic=1, r7=1)))
        self.assertEqual(Row(7, (1, 2)).part(job), job)
        self.assertEqual(Row(3, (1, 2), at_once=2).part(ROW.part(job)).tokens, some(lic=1, r3=1, r7=1))
        for value in ODD:
            if not isinstance(value, type(job)):
                self.refused(InvalidJob, ROW.part, value)
                self.refused(InvalidJob, Row(7, (1,)).part, value)
        self.refused(InvalidJob, ROW.part, job.changed(tokens=some(r7=1)))
        self.refused(InvalidJob, ROW.part, job.changed(groups=((1, ("all",), some(r7=1)),)))
        self.assertEqual(Row(7, (1, 2)).part(job.changed(tokens=some(r7=1))).tokens, some(r7=1))
        kinds = [("k%02d" % at, 1) for at in range(60)]
        for tokens, group in ((Amounts(tuple(kinds)), Amounts()), (Amounts(tuple(kinds[:30])), Amounts(tuple(kinds[30:])))):
            self.refused(InvalidJob, ROW.part, job.changed(tokens=tokens, groups=((1, ("all",), group),)))
        most = job.changed(tokens=Amounts(tuple(kinds[:58])), groups=((1, ("all",), some(core=1)),))
        self.assertEqual(len(ROW.part(most).total), 60)
        self.assertEqual(ROW.part(ROW.part(job).changed(tokens=some(lic=1))), ROW.part(job))


class States(Case):
    def test_examples(self):
        self.assertEqual(fold_states((ROW,), {4: "told", 7: "runs", 8: "runs", 9: "waits", 11: "waits"}),
                         ("4 told", "7.[1,2] runs", "7.[3,9] waits"))
        self.assertEqual(unfold_states((ROW,), ("7.[3,9] waits", "4 told", "7.[2,1-2] runs")),
                         {4: "told", 7: "runs", 8: "runs", 9: "waits", 11: "waits"})

    def test_folding(self):
        other = Row(20, tuple(range(0, 60, 3)))
        self.assertEqual(fold_states((ROW, other), {39: "a", 20: "b", 21: "a", 22: "a", 23: "a", 11: "b", 12: "b", 19: "abcdefgh", 1000000: "a", 1: "z"}),
                         ("1 z", "7.9 b", "12 b", "19 abcdefgh", "20.0 b", "20.[3,6,9,57] a", "1000000 a"))
        self.assertEqual(fold_states((other,), {number: "runs" for number in other}), ("20.[0-57:3] runs",))
        self.assertEqual(fold_states((), {}), ())
        self.assertEqual(fold_states((ROW,), {11: "a", 7: "b", 10: "a"}), ("7.1 b", "7.[5,9] a"))
        self.assertEqual(len(fold_states((), {at: "a" for at in range(1, 1001)})), 1000)

    def test_unfolding(self):
        self.assertEqual(list(unfold_states((ROW,), ("100 a", "7.9 b", "7.[3] c", "1 a", "7.[1-2,2] abcdefgh")).items()),
                         [(1, "a"), (7, "abcdefgh"), (8, "abcdefgh"), (9, "c"), (11, "b"), (100, "a")])
        self.assertEqual(unfold_states((), ()), {})
        self.assertEqual(unfold_states((), ("1000000 a",)), {1000000: "a"})
        lines = tuple(["%d a" % at for at in range(1, 1001)])
        self.assertEqual(unfold_states((), lines), {at: "a" for at in range(1, 1001)})
        self.refused(InvalidJob, unfold_states, (), lines + ("1001 a",))

    def test_arguments_are_not_changed(self):
        states = {11: "a", 4: "b", 7: "a"}
        self.assertEqual([fold_states((ROW,), states), fold_states((ROW,), states)], [("4 b", "7.[1,9] a")] * 2)
        self.assertEqual(list(states.items()), [(11, "a"), (4, "b"), (7, "a")])
        told = unfold_states((ROW,), ("4 b",))
        told[5] = "c"
        self.assertEqual(unfold_states((ROW,), ("4 b",)), {4: "b"})

    def test_wrong_lines(self):
        good = ("4 told", "7.[1,2] runs")
        for line in ("", " ", "4", "4 ", "5  told", " 5 told", "5 told ", "5 Told", "5 told1", "5 abcdefghi", "5 a b", "5", "5.told", "05 told", "0 told",
                     "-5 told", "1000001 told", "99999999 told", "x told", "5.1 told", "5.[1] told", "9 told", "7 told", "7. told", "7.4 told",
                     "7.03 told", "7.[] told", "7.[3 told", "7.[33 told", "7.[3,99 told", "7.[3x told", "7.3] told", "7.[3]x told", "7.[03] told", "7.[9-3] told", "7.[3,4] told", "7.[3, 9] told",
                     "7.[3,] told", "7.[0-9999] told", "8.3 told", "7.10000 told", "7.99999999999 told", "7.3.5 told", "07.3 told", "7.3 told\n",
                     "7.[3-5:0] told", "4 told", "7.1 told", "7.[2,3] told", "7.[1] runs", "[3] told", "7.x told", "7.[x] told", "5\told", "told 5"):
            self.assertEqual(self.refused(ParseError, unfold_states, (ROW,), good + (line, "?")).spot, 2, line)
            self.assertEqual(self.refused(ParseError, unfold_states, (ROW,), ("4 told", line)).spot if "7.1" not in line and "7.[2" not in line
                             and "7.[1]" not in line else 1, 1, line)
        self.assertEqual(self.refused(ParseError, unfold_states, (ROW,), ("7.9 a", "7.[3,9] a")).spot, 1)
        self.assertEqual(self.refused(ParseError, unfold_states, (ROW,), ("~" * 4001,)).spot, 0)
        self.assertEqual(self.refused(ParseError, unfold_states, (ROW,), ("9" * 4001,)).spot, 0)
        self.assertEqual(self.refused(ParseError, unfold_states, (ROW,), ("7." + "9" * 3000 + " a",)).spot, 0)

    def test_errors(self):
        for rows in [one for one in ODD if one != ()] + [(ROW, ROW), (ROW, Row(11, (1,))), (Row(20, (1,)), ROW), [ROW], ROW, (ROW, None), {ROW.first: ROW}]:
            self.refused(InvalidJob, fold_states, rows, {})
            self.refused(InvalidJob, fold_states, rows, None)
            self.refused(InvalidJob, unfold_states, rows, ())
            self.refused(InvalidJob, unfold_states, rows, ("?",))
        for states in [one for one in ODD if one != {}] + [
                {0: "a"}, {1000001: "a"}, {True: "a"}, {"1": "a"}, {1: ""}, {1: "A"}, {1: "abcdefghi"}, {1: None}, {1: "a1"}, {1: ("a",)},
                {at: "a" for at in range(1, 1002)}, [(1, "a")], {1: "a", -1: "a"}]:
            self.refused(InvalidJob, fold_states, (ROW,), states)
        for lines in [one for one in ODD if one != ()] + [["4 told"], "4 told", ("4 told", None), ("?", 1), {"4 told": 1}]:
            self.refused(InvalidJob, unfold_states, (ROW,), lines)
        self.assertEqual(fold_states((ROW, Row(12, (1,))), {12: "a"}), ("12.1 a",))

    def test_what_is_folded_is_unfolded(self):
        chance = random.Random(62)
        for _ in range(200):
            rows, first = [], 1
            for _ in range(chance.randrange(4)):
                first += chance.randrange(5)
                indices = tuple(sorted(chance.sample(range(40), chance.randrange(1, 21))))
                rows.append(Row(first, indices, at_once=chance.choice((None, 1))))
                first += len(indices)
            rows = tuple(rows)
            states = {number: chance.choice(("runs", "waits", "told")) for number in chance.sample(range(1, first + 9), chance.randrange(first + 8))}
            lines = fold_states(rows, states)
            self.assertEqual(unfold_states(rows, lines), states)
            self.assertEqual(list(unfold_states(rows, lines)), sorted(states))
            # Each line by the words: who is told, by which text, and in which order.
            expected = []
            for state in ("runs", "waits", "told"):
                mine = [number for number in sorted(states) if states[number] == state]
                for row in rows:
                    parts = [row.index_of(number) for number in mine if number in row]
                    if parts:
                        head = str(parts[0]) if len(parts) == 1 else "[%s]" % fold_indices(tuple(parts))
                        expected.append((row.number_of(parts[0]), "%d.%s %s" % (row.first, head, state)))
                expected.extend([(number, "%d %s" % (number, state)) for number in mine if not any([number in row for row in rows])])
            self.assertEqual(lines, tuple([line for _, line in sorted(expected)]))
            self.assertEqual(unfold_states(rows, tuple(chance.sample(lines, len(lines)))), states)
