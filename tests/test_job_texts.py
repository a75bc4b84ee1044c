"""Points 5.1 to 5.4: the texts of jobs."""

import random
import re

from toldstarts.base.amounts import Amounts
from toldstarts.errors import InvalidJob, ParseError
from toldstarts.jobs import reader as module
from toldstarts.jobs.jobs import Job
from toldstarts.jobs.reader import read_job, write_job
from helper import Case, ODD, a_job, some
from test_after import some_formula as some_after
from test_formulas import some_formula as some_marks

ALL, GPU = ("all",), ("mark", "gpu")
SIM = Job("sim", account="physics", person="ada", doors=("fast", "slow"),
          groups=((2, GPU, some(core=4)), (1, ALL, some(mem=10))), limit=3600)
TEXT = "# a test\nlimit 60 # minutes\nname sim\naccount physics\n  person ada\ndoors fast,slow\ngroup 2:gpu:core 4\ngroup 1 : all : mem 10\n"
PLAIN = "name a\naccount b\nperson c\ndoors d\ngroup 1:all:core 1\nlimit 1"


class Reading(Case):
    def test_constant(self):
        self.assertEqual(module.WISHES, ("name", "account", "person", "doors", "group", "tokens", "limit", "grade", "after"))

    def test_example(self):
        self.assertEqual([read_job(TEXT) == SIM, write_job(SIM).splitlines()[3:6], read_job(write_job(SIM)) == SIM],
                         [True, ["doors fast, slow", "group 2 : gpu : core 4", "group 1 : all : mem 10"], True])

    def test_defaults_and_all_wishes(self):
        job = read_job(PLAIN)
        self.assertEqual((job.tokens, job.grade, job.after, job.limit), (Amounts(), 0, None, 60))
        full = read_job("after well(3)|left(4)\ngrade 100\ntokens lic 2 ,  net 1\n" + PLAIN)
        self.assertEqual(full, job.changed(after=("or", (("well", 3), ("left", 4))), grade=100, tokens=some(lic=2, net=1)))
        self.assertEqual(read_job(PLAIN + "\ntokens nothing\ngrade 0"), job)
        self.assertEqual(read_job(PLAIN.replace("core 1", "nothing")).groups, ((1, ALL, Amounts()),))

    def test_lines_in_any_order(self):
        chance = random.Random(52)
        lines = ["name sim", "account physics", "person ada", "doors fast , slow", "limit 1:00:00", "grade 7", "tokens lic 1",
                 "after over(2)", "group 2 : gpu : core 4", "group 1:all:mem 10", "", "#", "   ", " # name b", "#limit 5"]
        job = SIM.changed(grade=7, tokens=some(lic=1), after=("over", 2))
        for _ in range(100):
            chance.shuffle(lines)
            first, second = [at for at, line in enumerate(lines) if line.startswith("group")]
            expected = job if lines[first].startswith("group 2") else job.changed(groups=job.groups[::-1])
            self.assertEqual(read_job("\n".join(lines)), expected)

    def test_blanks_and_remarks(self):
        for line in ("name  a", "   name a   ", "name a#b", "name     a   # name", "name a #", " name a##"):
            self.assertEqual(read_job(PLAIN.replace("name a", line)).name, "a")
        for line in ("doors d,e", "doors   d  ,  e ", "doors d ,e#,f"):
            self.assertEqual(read_job(PLAIN.replace("doors d", line)).doors, ("d", "e"))
        for line in ("group 3:!a|b:core 1,mem 2", "group  3  :  !a | b  :  core   1 ,  mem  2  ", "group 3 :(!a|(b)): mem 2, core 1 # x"):
            self.assertEqual(read_job(PLAIN.replace("group 1:all:core 1", line)).groups,
                             ((3, ("or", (("not", ("mark", "a")), ("mark", "b"))), some(core=1, mem=2)),))
        self.assertEqual(read_job("\n\n" + PLAIN + "\n\n\n"), read_job(PLAIN))

    def test_edges(self):
        self.assertEqual(read_job(PLAIN.replace("doors d", "doors a,b,c,d")).doors, ("a", "b", "c", "d"))
        self.assertEqual(len(read_job(PLAIN + "\ngroup 40:all:core 1" * 5).groups), 6)
        for text, limit in (("0:01", 1), ("1-3:46:40", 100000), ("1666:40", 100000), ("1666", 99960)):
            self.assertEqual(read_job(PLAIN.replace("limit 1", "limit " + text)).limit, limit)
        for grade in (0, 9, 10, 99, 100):
            self.assertEqual(read_job(PLAIN + "\ngrade %d" % grade).grade, grade)
        for many in (1, 9, 10, 40):
            self.assertEqual(read_job(PLAIN.replace("group 1", "group %d" % many)).machines, many)

    def test_four_thousand_characters_and_one_more(self):
        text = PLAIN + "\n#" + "~" * (4000 - len(PLAIN) - 2)
        self.assertEqual(len(text), 4000)
        self.assertEqual(read_job(text), read_job(PLAIN))
        self.wrong_at(None, read_job, text + "~")
        self.wrong_at(None, read_job, text + "\n")
        self.wrong_at(4000, read_job, "#" * 4000)
        self.wrong_at(4000, read_job, "\n" * 4000)
        self.wrong_at(0, read_job, "a" * 4000)

    def test_no_job_texts(self):
        for value in ODD:
            if not isinstance(value, str):
                self.wrong_at(None, read_job, value)
        for sign in ("\t", "\r", "\x00", "\x1f", "\x7f", "\x0b", "\x0c", "\x1c", "\x85", "\xe4", "\u2028", "\U0001f600"):
            self.wrong_at(None, read_job, PLAIN + sign)
            self.wrong_at(None, read_job, sign + PLAIN)
            self.wrong_at(None, read_job, "?\n" + PLAIN + "#" + sign)
        self.wrong_at(None, read_job, PLAIN.split("\n"))


class WrongTexts(Case):
    def wrong_line(self, line, spot, text=PLAIN):
        """A line must be wrong at an index of its own, wherever it stands."""
        wish = re.match(" *([a-z]*)", line).group(1)
        kept = [one for one in text.split("\n") if one.split(" ")[0] != wish]
        for at in (0, 2, len(kept)):
            ahead = "".join([one + "\n" for one in kept[:at]])
            self.wrong_at(len(ahead) + spot, read_job, ahead + line + "\n" + "\n".join(kept[at:]))
        self.wrong_at(spot, read_job, line + "\n?")

    def test_wrong_wishes(self):
        for line, spot in (("x", 0), ("  x y", 2), ("names a", 0), ("Name a", 0), ("nam a", 0), ("? a", 0), ("1", 0), ("groups 1", 0),
                           (" 1name a", 1), ("=", 0), ("_", 0), ("machines 3", 0), ("size 1", 0), ("door d", 0)):
            self.wrong_line(line, spot)

    def test_no_blank_or_no_value_behind_a_wish(self):
        for line, spot in (("name", 4), ("name   ", 4), ("name#a", 4), ("  name #a", 6), ("name=a", 4), ("name:a", 4), ("limit5", 5),
                           ("name1 a", 4), ("grade", 5), ("after#", 5), ("group:1", 5), ("tokens,", 6), ("doors ", 5)):
            self.wrong_line(line, spot)

    def test_wishes_once_more(self):
        for wish, value in (("name", "a"), ("account", "a"), ("person", "a"), ("doors", "a"), ("tokens", "core 1"), ("limit", "1"),
                            ("grade", "1"), ("after", "well(1)")):
            text = PLAIN if wish in PLAIN else PLAIN + "\n%s %s" % (wish, value)
            self.wrong_at(len(text) + 3, read_job, text + "\n  %s %s" % (wish, value))
            self.wrong_at(len(text) + 1, read_job, text + "\n%s" % wish)
            self.wrong_at(len(text) + 1, read_job, text + "\n%s=" % wish)
        text = PLAIN + "\ngroup 1:all:core 1" * 5
        self.wrong_at(len(text) + 2, read_job, text + "\n group 1:all:core 1")
        self.wrong_at(len(text) + 1, read_job, text + "\ngroup")

    def test_wrong_names_and_numbers(self):
        for wish in ("name", "account", "person"):
            for value in ("1", "A", "a b", "abcdefghijklm", "a,b", "a:", "?", "a-b", "aB"):
                self.wrong_line("%s  %s" % (wish, value), len(wish) + 2)
        for value in ("101", "00", "01", "-1", "+1", "1 0", "1.0", "x", "1000", "9" * 3000, "1,", "0x1", "1_0"):
            self.wrong_line("grade  %s # 5" % value, 7)
        for value in ("0", "41", "01", "-1", "x", "1 1", "100", "9" * 3000, "00", "4 0", "1,2"):
            self.wrong_line("group  %s :all:core 1" % value, 7)

    def test_wrong_doors(self):
        for line, spot in (("doors ,", 6), ("doors a,", 8), ("doors a,  # b", 8), ("doors a,,b", 8), ("doors a, ,b", 9), ("doors  , a", 7),
                           ("doors a,b c,d", 8), ("doors a,  B", 10), ("doors a,a", 8), ("doors a, b ,a", 12), ("doors a,b,c,d,e", 14),
                           ("doors a,b,c,d,", 14), ("doors a,b,c,d,  ,e", 16), ("doors a,b,c,d,a", 14), ("doors 1,,a", 6), ("doors a,1,a", 8),
                           ("doors abcdefghijklm", 6), ("doors a b", 6), ("doors a;b", 6), ("doors a:b", 6), ("doors a,b,c,d,e,?", 14)):
            self.wrong_line(line, spot)

    def test_wrong_numbers_of_colons(self):
        for line, spot in (("group 1", 7), ("group  ? # x", 8), ("group 1:all", 11), ("group 0:", 8), ("group 1 : a b  ", 13),
                           ("group 1:all:core 1:", 18), ("group ?:?:?:?:?", 11), ("group :::", 8), ("group 1:all:core 1 : x", 19)):
            self.wrong_line(line, spot)

    def test_empty_parts(self):
        for line, spot in (("group ::", 6), ("group 1::", 8), ("group 1:  :core 1", 10), ("group 1:all:", 12), ("group 1:all:  #", 12),
                           ("group  :all:core 1", 7), ("group 0::", 6), ("group 1::?", 8), ("group 1:all:", 12)):
            self.wrong_line(line, spot)

    def test_wrong_marks(self):
        for part, spot in (("&", 0), ("a &", 3), ("a b", 2), ("(a", 2), ("a)", 1), ("abcdefghi", 8), ("A", 0), ("a1", 1), ("a,b", 1),
                           ("!" * 8 + "a", 9), ("|".join("abcdefghi"), 17), ("well(1)", 4), ("a | (b & )", 9)):
            self.wrong_line("group 1:%s:core 1" % part, 8 + spot)
            self.wrong_line("group  1 :   %s   : core 1" % part, 13 + spot)
            self.wrong_line("group 1 : %s : ?" % part, 10 + spot)

    def test_wrong_amounts(self):
        long = ",".join([first + second + " 1" for first in "abcdefgh" for second in "abcdefgh"][:61])
        for part, spot in (("?", 0), ("core", 4), ("core 0", 5), ("core 01", 5), ("core 1,", 7), ("core 1,,", 7), ("core 1 1", 7),
                           ("core 1,core 2", 7), ("core 1000001", 5), ("core 10000000", 12), ("abcdefghi 1", 8), ("nothing,core 1", 7),
                           ("nothing 1", 8), ("core 1, nothing", 15), ("co1 1", 0), ("core 1,  c1 1, c2 1", 9), ("nothing1 5", 0),
                           ("c1 1, c1 2", 6), ("c1 1,?", 5), (long, long.rindex(",") + 1), ("core 1;", 6)):
            self.wrong_line("tokens %s" % part, 7 + spot)
            self.wrong_line("tokens    %s   # core 1" % part, 10 + spot)
            self.wrong_line("group 1:all:%s" % part, 12 + spot)
            self.wrong_line("group 1 : all  :  %s   " % part, 18 + spot)
        self.wrong_line("group 41:a b:?", 6)
        self.wrong_line("group 1:a b:?", 10)

    def test_wrong_limits(self):
        for value, spot in (("x", 0), ("1:", 2), ("1:60", 2), ("1 0", 1), ("1-24", 2), ("0", 0), ("0:00", 0), ("0-0:0:0", 0), ("1667", 0),
                            ("1666:41", 0), ("1-3:46:41", 0), ("16666:40", 0), ("16667", 5), ("16666:41", 8), ("12345678", 7), ("-1", 0)):
            self.wrong_line("limit %s" % value, 6 + spot)
            self.wrong_line("   limit   %s  #1" % value, 11 + spot)

    def test_wrong_afters(self):
        for value, spot in (("x", 0), ("well", 4), ("well(0)", 5), ("well(1", 6), ("well(1) &", 9), ("well(1) x", 8), ("well(1000001)", 5),
                            ("|".join(["well(1)"] * 21), 167), ("|".join(["well(%d)" % at for at in range(1, 8)]), 55), ("all", 0)):
            self.wrong_line("after %s" % value, 6 + spot)
            self.wrong_line(" after   %s  # well(1)" % value, 9 + spot)

    def test_the_first_wrong_line_counts(self):
        self.wrong_at(5, read_job, "name ?\nx\nname ?")
        self.wrong_at(0, read_job, "x\nname ?")
        self.wrong_at(7, read_job, "name a\nname ?\nx")

    def test_wishes_that_lack(self):
        lines = PLAIN.split("\n")
        for at in range(len(lines)):
            text = "\n".join(lines[:at] + lines[at + 1:]) + "\n# "
            self.wrong_at(len(text), read_job, text)
        self.wrong_at(0, read_job, "")
        self.wrong_at(6, read_job, "name a")
        self.wrong_at(8, read_job, "name a\n ")

    def test_too_much(self):
        for lines in ("group 40:all:core 25000", "tokens core 1000000", "group 1:all:" + ",".join([one + two + " 1" for one in "abcdef" for two in "abcdefghij"])):
            text = PLAIN + "\n" + lines + "\n"
            self.wrong_at(len(text), read_job, text)
        self.assertEqual(read_job(PLAIN + "\ngroup 1:all:core 999999").total, some(core=1000000))
        self.wrong_at(len(PLAIN) + 1, read_job, PLAIN + "\nx\ntokens core 1000000")


class Writing(Case):
    def test_all_wishes(self):
        job = SIM.changed(tokens=some(net=1, lic=20), grade=9, after=("and", (("or", (("well", 1), ("left", 2))), ("over", 30))),
                          limit=100000)
        self.assertEqual(write_job(job), "name sim\naccount physics\nperson ada\ndoors fast, slow\ngroup 2 : gpu : core 4\n"
                         "group 1 : all : mem 10\ntokens lic 20, net 1\nlimit 1-03:46:40\ngrade 9\n"
                         "after (well(1) | left(2)) & over(30)")
        self.assertEqual(write_job(read_job(PLAIN)),
                         "name a\naccount b\nperson c\ndoors d\ngroup 1 : all : core 1\nlimit 00:01:00")
        self.assertEqual(write_job(a_job(groups=((1, ("not", GPU), Amounts()),))).splitlines()[4], "group 1 : !gpu : nothing")
        self.assertEqual(write_job(a_job(tokens=some(r7=1))).splitlines()[5], "tokens r7 1")

    def test_no_jobs(self):
        for value in ODD:
            if not isinstance(value, Job):
                self.refused(InvalidJob, write_job, value)

    def test_what_is_written_is_read(self):
        chance = random.Random(53)
        long = 0
        for _ in range(400):
            job = some_job(chance)
            text = write_job(job)
            if len(text) > 4000:
                self.wrong_at(None, read_job, text)
                continue
            self.assertEqual(read_job(text), job)
            self.assertEqual(write_job(read_job(text)), text)
            self.assertEqual(read_job(text.replace(" : ", ":").replace(", ", ",")), job)
            long += len(text) > 500
        self.assertGreater(long, 5)

    def test_changed_texts(self):
        chance = random.Random(54)
        read = 0
        for _ in range(3000):
            text = write_job(some_job(chance, 2))
            at = chance.randrange(len(text))
            text = text[:at] + chance.choice(("", chance.choice(" :,#\na1(&?"))) + text[at + chance.randrange(2):]
            try:
                job = read_job(text)
            except ParseError as e:
                self.assertIn(e.spot, range(len(text) + 1))
                # What stands behind the line of the spot has no effect, if it is not the end.
                if e.spot < len(text):
                    end = (text + "\n").index("\n", e.spot)
                    self.wrong_at(e.spot, read_job, text[:end] + "\n?")
                continue
            read += 1
            self.assertEqual(read_job(write_job(job)), job)
        self.assertGreater(read, 500)


def some_job(chance, most=6):
    """Any job whose kinds have letters alone."""
    def name():
        return chance.choice("abcxyz") + "".join(chance.choices("abc019", k=chance.randrange(12)))

    def amounts():
        return some(**{kind: chance.choice((1, 7, 100, 20000)) for kind in chance.sample(("core", "mem", "abcdefgh", "z"), chance.randrange(4))})

    after = some_after(chance, 4, (1, 20, 300, 1000000)) if chance.random() < 0.5 else None
    groups = tuple([(chance.choice((1, 2, 9)), some_marks(chance, chance.choice((1, 2, 3)), ("a", "gpu", "abcdefgh")), amounts())
                    for _ in range(chance.randrange(1, most + 1))])
    doors = []
    for _ in range(chance.randrange(1, 5)):
        door = name()
        if door not in doors:
            doors.append(door)
    return Job(name(), account=name(), person=name(), doors=tuple(doors), groups=groups, tokens=chance.choice((None, amounts())),
               limit=chance.choice((1, 59, 60, 3600, 86400, 100000)), grade=chance.choice((0, 1, 10, 100)), after=after)
