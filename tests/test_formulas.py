"""Points 3.4 to 3.8: formulas over marks."""

import ast
import itertools
import random
import re

from toldstarts.errors import InvalidFormula, InvalidMachine
from toldstarts.house import formulas as module
from toldstarts.house.formulas import (
    holds, is_formula, is_plain_form, marks_in, parting, plain_form, read_formula, write_formula)
from helper import Case, ODD

A, B, C, ALL = ("mark", "a"), ("mark", "b"), ("mark", "c"), ("all",)
EIGHT = tuple([("mark", sign) for sign in "abcdefgh"])
NO_MARKS = [value for value in ODD if value != ()] + [
    tuple("abcdefghi"), ("b", "a"), ("a", "a"), ("all",), ["a"], "a", ("a1",), ("abcdefghi",), ("",), (None,), ({},)]


def negated(times, f=A):
    for _ in range(times):
        f = ("not", f)
    return f


def some_formula(chance, depth, marks="abc"):
    """Any formula of at most a depth."""
    way = chance.random()
    if depth == 1 or way < 0.25:
        return ALL if chance.random() < 0.1 else ("mark", chance.choice(marks))
    if way < 0.45:
        return ("not", some_formula(chance, depth - 1, marks))
    parts = tuple([some_formula(chance, depth - 1, marks) for _ in range(chance.choice((2, 2, 3)))])
    return (chance.choice(("and", "or")), parts)


def truth(f, marks):
    """3.5, by another way: as an expression of Python."""
    return eval(expression(f), {"marks": marks})


def expression(f):
    if f == ALL:
        return "True"
    if f[0] == "mark":
        return "(%r in marks)" % f[1]
    if f[0] == "not":
        return "(not %s)" % expression(f[1])
    return "(" + (" %s " % f[0]).join([expression(part) for part in f[1]]) + ")"


def sets_of(marks):
    return [some for size in range(len(marks) + 1) for some in itertools.combinations(marks, size)]


class Forms(Case):
    def test_constants(self):
        self.assertEqual((module.MAX_DEPTH, module.MAX_NODES), (8, 60))

    def test_formulas(self):
        for f in (A, ALL, ("not", A), ("not", ALL), ("and", (A, A)), ("or", (A, B, C)), ("mark", "abcdefgh"),
                  ("and", (("or", (A, B)), ("not", ("and", (C, ALL))))), ("mark", "mark"), ("mark", "not")):
            self.assertIs(is_formula(f), True, f)
        for f in ODD + ((), ("all", ()), ["all"], "all", ("mark",), ("mark", "all"), ("mark", "a", "b"), ["mark", "a"],
                        ("mark", "a1"), ("mark", ""), ("mark", "abcdefghi"), ("mark", ("a",)), ("mark", None),
                        ("not",), ("not", (A,)), ("not", A, B), ("not", "a"), ("and", A), ("and", ()), ("and", (A,)),
                        ("and", [A, B]), ("and", A, B), ("or", (A, "b")), ("or", (A, ())), ("or", (A, ("xor", (A, B)))),
                        ("xor", (A, B)), ("And", (A, B)), (True, A), (None, A), ([], A), (["and"], (A, B)), ("or", "ab"),
                        ("and", (A, [B])), ("well", 1), (("all",),), ("not", ("not", None))):
            self.assertIs(is_formula(f), False, f)
        for value in ODD:
            for word in ("mark", "not", "and", "or", "all"):
                self.assertIs(is_formula((word, value)), word == "mark" and value in ("x", "nothing"))
                self.assertIs(is_formula((value, A)), False)
                self.assertIs(is_formula(("and", (A, value))), False)

    def test_depth_nodes_and_marks(self):
        self.assertIs(is_formula(negated(7)), True)
        self.assertIs(is_formula(negated(8)), False)
        self.assertIs(is_formula(("or", (A, negated(6)))), True)
        self.assertIs(is_formula(("or", (negated(7), A))), False)
        self.assertIs(is_formula(("or", (A,) * 59)), True)
        self.assertIs(is_formula(("or", (A,) * 60)), False)
        self.assertIs(is_formula(("or", (("not", A),) * 29)), True)
        self.assertIs(is_formula(("or", (("not", A),) * 30)), False)
        self.assertIs(is_formula(("or", (("and", (A, ALL, B)),) * 14 + (A, A, A))), True)
        self.assertIs(is_formula(("or", (("and", (A, ALL, B)),) * 15)), False)
        self.assertIs(is_formula(("or", EIGHT)), True)
        self.assertIs(is_formula(("or", EIGHT + EIGHT + (ALL,))), True)
        self.assertIs(is_formula(("or", EIGHT + (("mark", "i"),))), False)
        doubled = A
        for _ in range(28):
            doubled = ("and", (doubled, doubled))
        self.assertIs(is_formula(doubled), False)

    def test_marks_in(self):
        for f, marks in ((A, ("a",)), (ALL, ()), (("or", (C, A, ("not", ("and", (B, C))))), ("a", "b", "c")),
                         (("or", EIGHT[::-1]), tuple("abcdefgh"))):
            self.assertEqual(marks_in(f), marks)

    def test_wrong_arguments(self):
        for value in ODD + (negated(8), ("mark", "all")):
            for call in (marks_in, write_formula):
                self.refused(InvalidFormula, call, value)
            for call in (holds, plain_form):
                self.refused(InvalidFormula, call, value, None)
            self.refused(InvalidFormula, parting, value, None, None)
            self.refused(InvalidFormula, parting, A, value, None)
            self.refused(InvalidFormula, is_plain_form, value, None, ())
        for value in NO_MARKS:
            self.refused(InvalidMachine, holds, A, value)
            self.refused(InvalidMachine, parting, A, B, value)
            self.refused(InvalidMachine, plain_form, A, value)
            self.refused(InvalidMachine, is_plain_form, A, value, ())

    def test_marks_that_are_not_there(self):
        self.assertEqual(holds(A, ("b",)), False)
        for f, g in ((A, B), (B, A), (B, B), (ALL, B), (B, ALL)):
            self.refused(InvalidFormula, parting, f, g, ("a",))
        self.refused(InvalidFormula, plain_form, B, ("a", "c"))
        self.refused(InvalidFormula, is_plain_form, B, (), ())


class Truth(Case):
    def test_holds(self):
        for f, marks, answer in ((A, ("a",), True), (A, (), False), (A, ("b",), False), (ALL, (), True),
                                 (("not", A), ("a", "b"), False), (("not", A), ("b",), True),
                                 (("and", (A, B)), ("a", "b"), True), (("and", (A, B)), ("b",), False),
                                 (("or", (A, B)), ("b",), True), (("or", (A, B)), ("c",), False)):
            self.assertIs(holds(f, marks), answer)

    def test_holds_against_another_way(self):
        chance = random.Random(8)
        for _ in range(200):
            f = some_formula(chance, 4)
            for marks in sets_of("abc"):
                self.assertIs(holds(f, marks), truth(f, marks))

    def test_parting(self):
        marks = ("a", "b", "c")
        for f, g, some in ((A, A, None), (A, B, ("a",)), (A, ("not", A), ()), (("and", (A, B)), A, ("a",)),
                           (("and", (A, B)), ("and", (A, C)), ("a", "b")), (("or", (B, C)), C, ("b",)),
                           (("and", (A, B, C)), ("not", ALL), ("a", "b", "c")), (ALL, ("or", (A, ("not", A))), None),
                           (("not", ("and", (A, B))), ("or", (("not", A), ("not", B))), None)):
            self.assertEqual(parting(f, g, marks), some)
        self.assertEqual(parting(ALL, ALL, ()), None)
        self.assertEqual(parting(ALL, ("not", ALL), ()), ())
        self.assertEqual(parting(("and", EIGHT), ("not", ALL), tuple("abcdefgh")), tuple("abcdefgh"))

    def test_parting_against_a_plain_search(self):
        chance = random.Random(9)
        alike = 0
        for _ in range(500):
            f, g = some_formula(chance, 3), some_formula(chance, 3)
            marks = ("a", "b", "c", "d")[:chance.choice((3, 3, 4))]
            parts = [(len(some), some) for some in sets_of(marks) if truth(f, some) != truth(g, some)]
            self.assertEqual(parting(f, g, marks), min(parts)[1] if parts else None)
            self.assertIs(plain_form(f, marks) == plain_form(g, marks), not parts)
            alike += not parts
        self.assertGreater(alike, 20)


def rows_of(f, marks):
    """All prime rows, straight from the words of 3.8."""
    def is_sure(row):
        fitted = [some for some in sets_of(marks) if set(row[0]) <= set(some) and not set(row[1]) & set(some)]
        return all([truth(f, some) for some in fitted])

    found = []
    for sides in itertools.product((0, 1, 2), repeat=len(marks)):
        row = tuple([tuple([mark for mark, side in zip(marks, sides) if side == at]) for at in (0, 1)])
        less = [(tuple([mark for mark in row[0] if mark != gone]), tuple([mark for mark in row[1] if mark != gone]))
                for gone in row[0] + row[1]]
        if is_sure(row) and not any([is_sure(one) for one in less]):
            found.append(row)
    return tuple(sorted(found))


class PlainForms(Case):
    def test_plain_forms(self):
        marks = ("a", "b", "c")
        for f, form in ((ALL, (((), ()),)), (("not", ALL), ()), (A, ((("a",), ()),)), (("not", A), (((), ("a",)),)),
                        (("or", (A, ("not", A))), (((), ()),)), (("and", (A, ("not", A))), ()),
                        (("or", (A, B)), ((("a",), ()), (("b",), ()))),
                        (("or", (("and", (A, B)), ("and", (("not", A), C)))),
                         ((("a", "b"), ()), (("b", "c"), ()), (("c",), ("a",))))):
            self.assertEqual(plain_form(f, marks), form)
            self.assertIs(is_plain_form(f, marks, form), True)
        self.assertEqual([plain_form(ALL, ()), plain_form(("not", ALL), ())], [(((), ()),), ()])
        self.assertEqual(plain_form(("and", EIGHT), tuple("abcdefgh")), ((tuple("abcdefgh"), ()),))
        self.assertEqual(len(plain_form(("or", EIGHT), tuple("abcdefgh"))), 8)

    def test_against_the_words(self):
        chance = random.Random(10)
        for _ in range(120):
            f = some_formula(chance, 4)
            marks = ("a", "b", "c", "d")[:chance.choice((3, 3, 3, 4))]
            form = plain_form(f, marks)
            self.assertEqual(form, rows_of(f, marks))
            for some in sets_of(marks):
                fits = [row for row in form if set(row[0]) <= set(some) and not set(row[1]) & set(some)]
                self.assertIs(bool(fits), holds(f, some))

    def test_is_plain_form(self):
        f, marks = ("or", (("and", (A, B)), ("and", (("not", A), C)))), ("a", "b", "c")
        form = plain_form(f, marks)
        for value in ODD + (form[:2], form[1:], form[::-1], form + form, list(form), (list(form[0]),) + form[1:],
                            ((["a", "b"], ()),) + form[1:], form + (((), ()),), (form[0], form[2]),
                            ((("b", "a"), ()),) + form[1:], form[:2] + ((("c",), ("a", "b")),),
                            (form[0], form[2], form[1]), (form,), form[:2] + ((("c",), ("a",), ()),)):
            self.assertIs(is_plain_form(f, marks, value), False, value)
        self.assertIs(is_plain_form(f, marks, tuple([tuple(list(row)) for row in form])), True)
        for value in ODD:
            self.assertIs(is_plain_form(("not", ALL), marks, value), value == ())
            self.assertIs(is_plain_form(A, marks, ((value, ()),)), False)
            self.assertIs(is_plain_form(A, marks, ((("a",), value),)), value == ())


class Texts(Case):
    def test_writing(self):
        for f, text in ((A, "a"), (ALL, "all"), (("not", A), "!a"), (("not", ("not", ALL)), "!!all"),
                        (("and", (A, B, C)), "a & b & c"), (("or", (A, B, C)), "a | b | c"),
                        (("not", ("and", (A, B))), "!(a & b)"), (("not", ("or", (A, B))), "!(a | b)"),
                        (("and", (("or", (A, B)), C)), "(a | b) & c"), (("or", (("and", (A, B)), C)), "a & b | c"),
                        (("and", (("and", (A, B)), C)), "(a & b) & c"), (("or", (A, ("or", (B, C)))), "a | (b | c)"),
                        (("and", (("or", (A, B)), ("not", ("not", C)), ("all",))), "(a | b) & !!c & all"),
                        (("or", (("not", ("or", (A, B))), ("and", (("not", A), ALL)))), "!(a | b) | !a & all")):
            self.assertEqual(write_formula(f), text)
            self.assertEqual(read_formula(text), f)

    def test_what_is_written_is_read(self):
        chance = random.Random(11)
        for _ in range(500):
            f = some_formula(chance, 4, ("a", "b", "gpu", "abcdefgh"))
            self.assertEqual(read_formula(write_formula(f)), f)
            self.assertEqual(read_formula(write_formula(f).replace(" ", "")), f)

    def test_reading(self):
        for text, f in ((" a ", A), ("a&b", ("and", (A, B))), ("((a))", A), ("! ! a", ("not", ("not", A))),
                        ("a&b|c", ("or", (("and", (A, B)), C))), ("a|b&c", ("or", (A, ("and", (B, C))))),
                        ("(a&b)&c", ("and", (("and", (A, B)), C))), ("((a)&(b))", ("and", (A, B))),
                        ("!a&b", ("and", (("not", A), B))), ("!(a)", ("not", A)), ("!((a)|b)", ("not", ("or", (A, B)))),
                        ("allow", ("mark", "allow")), ("( all )", ALL), ("a|a|a", ("or", (A, A, A))),
                        (" a&b | !(c|a) ", ("or", (("and", (A, B)), ("not", ("or", (C, A))))))):
            self.assertEqual(read_formula(text), f, text)

    def test_wrong_texts(self):
        for text, spot in (("", 0), ("  ", 2), ("a b", 2), ("a &", 3), ("a & ", 4), ("& a", 0), ("a && b", 3), ("a |", 3),
                           ("a | | b", 4), ("(a", 2), ("(a b", 3), ("a)", 1), ("()", 1), (")", 0), ("!", 1), ("!&", 1),
                           ("a!", 1), ("a(b)", 1), ("(a)b", 3), ("(a)(b)", 3), ("a1", 1), ("A", 0), ("aB", 1),
                           ("abcdefghi", 8), ("abcdefgh i", 9), ("a & abcdefghij", 12), ("a\t", 1), ("a\n", 1),
                           ("a-b", 1), ("a,b", 1), ("a &! b &", 8), ("(a|b))", 5), ("((a|b)", 6), ("!)", 1), ("a !b", 2)):
            self.wrong_at(spot, read_formula, text)
        for value in ODD:
            if not isinstance(value, str):
                self.wrong_at(None, read_formula, value)

    def test_sixty_four_open_signs_and_one_more(self):
        self.assertEqual(read_formula("(" * 64 + "a" + ")" * 64), A)
        self.assertEqual(read_formula("(" * 64 + "a" + ")" * 64 + "&(b)"), ("and", (A, B)))
        self.wrong_at(64, read_formula, "(" * 65 + "a" + ")" * 65)
        self.wrong_at(64, read_formula, "!" * 65 + "a")
        self.wrong_at(65, read_formula, "(" * 32 + " " + "!" * 33 + "a")
        self.wrong_at(64, read_formula, "(" * 64 + "!a" + ")" * 64)
        self.wrong_at(64, read_formula, "!" * 64 + "(a)")
        self.wrong_at(67, read_formula, "(" * 63 + "!a&" + "!!a")
        self.wrong_at(66, read_formula, "!" * 64 + "a&)")
        self.wrong_at(68, read_formula, "(" * 64 + "a)&(" + "(")
        self.wrong_at(64, read_formula, "(" * 64)
        self.wrong_at(64, read_formula, "!" * 64)
        # Signs that are closed again do not count.
        self.assertEqual(read_formula("&".join(["!a"] * 20)), ("and", (("not", A),) * 20))
        self.wrong_at(401, read_formula, "&".join(["!(!a)"] * 67) + ")")
        self.refused(InvalidFormula, read_formula, "&".join(["!(!a)"] * 67))
        self.refused(InvalidFormula, read_formula, "!" * 64 + "a")

    def test_what_is_read_and_is_no_formula(self):
        self.assertEqual(read_formula("!" * 7 + "a"), negated(7))
        self.refused(InvalidFormula, read_formula, "!" * 8 + "a")
        self.assertEqual(read_formula("|".join(["a"] * 59)), ("or", (A,) * 59))
        self.refused(InvalidFormula, read_formula, "|".join(["a"] * 60))
        self.assertEqual(read_formula("|".join("abcdefgh")), ("or", EIGHT))
        self.refused(InvalidFormula, read_formula, "|".join("abcdefghi"))
        self.wrong_at(17, read_formula, "|".join("abcdefghi") + "#")
        self.wrong_at(4001, read_formula, "(a)&" * 1000 + "!")

    def test_all_short_texts(self):
        for size in range(6):
            for text in map("".join, itertools.product("a!()&| ", repeat=size)):
                f = read_by_python(text)
                if f is not None:
                    self.assertEqual(read_formula(text), f, text)
                    continue
                bad = [at for at in range(size) if not may_go_on(text[:at + 1])]
                self.wrong_at(bad[0] if bad else size, read_formula, text)


def may_go_on(text):
    """Whether some text of a formula begins with a text."""
    return any([read_by_python(text + more + ")" * times) is not None
                for more in ("", "a") for times in range(text.count("(") + 1)])


def read_by_python(text):
    """The formula that a text tells, read as an expression of Python, or None."""
    # What Python reads in other ways: calls, empty parentheses, and two words.
    if re.search(r"[a-z)] *\(|\( *\)|[a-z)] +[a-z]|[a-z)] *!", text):
        return None
    text = text.replace("!", " not ").replace("&", " and ").replace("|", " or ").strip()
    try:
        return formula_of(ast.parse(text, mode="eval").body)
    except SyntaxError:
        return None


def formula_of(node):
    if isinstance(node, ast.Name):
        return ("mark", node.id)
    if isinstance(node, ast.UnaryOp):
        return ("not", formula_of(node.operand))
    return ("and" if isinstance(node.op, ast.And) else "or", tuple([formula_of(part) for part in node.values]))
