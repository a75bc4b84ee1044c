"""Stage 5: jobs."""

import random

from toldstarts.base.amounts import Amounts
from toldstarts.errors import InvalidJob
from toldstarts.jobs import jobs as module
from toldstarts.jobs.jobs import Job
from helper import Case, ODD, a_job, some

ALL, GPU = ("all",), ("mark", "gpu")
GROUPS = ((2, GPU, some(core=4)), (1, ALL, some(mem=10)))
NAMES = ("a", "z9", "abcdefghijkl", "a00000000000", "nothing", "all")
NO_NAMES = ("", "9", "9a", "A", "aB", "a b", " a", "a\n", "a-b", "abcdefghijklm", "_")
WORDS = ("name", "account", "person", "doors", "groups", "tokens", "limit", "grade", "after")


def job_of(name="sim", *, account="physics", person="ada", doors=("fast", "slow"), groups=GROUPS, tokens=None, limit=3600,
           grade=0, after=None):
    return Job(name, account=account, person=person, doors=doors, groups=groups, tokens=tokens, limit=limit, grade=grade,
               after=after)


def kinds(many):
    return Amounts(tuple([("k%02d" % at, 1) for at in range(many)]))


class Jobs(Case):
    def test_constants(self):
        self.assertEqual((module.MAX_LIMIT, module.MAX_GRADE, module.MAX_DOORS), (100000, 100, 4))

    def test_example(self):
        sim = job_of()
        self.assertEqual([str(sim), sim.machines, sim.size, str(sim.total), sim.grade, sim.after, sim.changed(grade=3) == sim,
                          str(sim.changed(limit=60, tokens=some(lic=1)).total)],
                         ["job sim of 3 machines for 01:00:00", 3, 18, "core 8, mem 10", 0, None, False, "core 8, lic 1, mem 10"])

    def test_properties(self):
        after = ("or", (("well", 1), ("left", 2)))
        job = job_of("x", tokens=some(lic=3), limit=100000, grade=100, after=after)
        self.assertEqual((job.name, job.account, job.person, job.doors, job.groups, job.tokens, job.limit, job.grade, job.after),
                         ("x", "physics", "ada", ("fast", "slow"), GROUPS, some(lic=3), 100000, 100, after))
        plain = job_of()
        self.assertEqual((plain.tokens, plain.grade, plain.after), (Amounts(), 0, None))
        for name in WORDS + ("machines", "size", "total"):
            with self.assertRaises(AttributeError):
                setattr(job, name, 1)
        self.assertRaises(TypeError, iter, job)
        self.assertRaises(TypeError, lambda: 1 in job)
        self.assertRaises(TypeError, len, job)

    def test_sums(self):
        for groups, tokens, machines, size, total in (
                (((1, ALL, Amounts()),), None, 1, 1, "nothing"), (((40, ALL, Amounts()),), some(a=5), 40, 1, "a 5"),
                (((3, ALL, some(a=1, b=2)),), some(b=1, c=9), 3, 9, "a 3, b 7, c 9"),
                (((40, ALL, some(a=25000)),), None, 40, 1000000, "a 1000000"),
                (((1, ALL, some(a=2)), (2, GPU, Amounts()), (3, ALL, some(a=1, z=1))), None, 6, 8, "a 5, z 3"),
                (((2, ALL, kinds(60)),), kinds(60), 2, 120, ", ".join(["k%02d 3" % at for at in range(60)]))):
            job = job_of(groups=groups, tokens=tokens)
            self.assertEqual((job.machines, job.size, str(job.total)), (machines, size, total))

    def test_texts(self):
        self.assertEqual([str(job_of("x", limit=1)), str(job_of("y", limit=100000, groups=((40, ALL, Amounts()),)))],
                         ["job x of 3 machines for 00:00:01", "job y of 40 machines for 1-03:46:40"])

    def test_edges(self):
        for name in NAMES:
            job = job_of(name, account=name, person=name, doors=(name,))
            self.assertEqual((job.name, job.account, job.person, job.doors), (name, name, name, (name,)))
        self.assertEqual(job_of(doors=("d", "c", "b", "a")).doors, ("d", "c", "b", "a"))
        self.assertEqual(len(job_of(groups=GROUPS[:1] * 6).groups), 6)
        self.assertEqual([job_of(limit=limit).limit for limit in (1, 100000)], [1, 100000])
        self.assertEqual([job_of(grade=grade).grade for grade in (0, 100)], [0, 100])
        self.assertEqual(len(job_of(groups=((1, ALL, kinds(60)),)).total), 60)
        self.assertEqual(job_of(groups=((2, ALL, some(a=499999)),), tokens=some(a=2)).total, some(a=1000000))

    def test_wrong_names(self):
        for value in [one for one in ODD if one not in ("x", "all", "nothing")] + list(NO_NAMES):
            for word in ("name", "account", "person"):
                self.refused(InvalidJob, job_of().changed, **{word: value})
            self.refused(InvalidJob, job_of, value)
            self.refused(InvalidJob, job_of, account=value)
            self.refused(InvalidJob, job_of, person=value)
            self.refused(InvalidJob, job_of, doors=(value,))
            self.refused(InvalidJob, job_of, doors=("fast", value))

    def test_wrong_arguments(self):
        one = (1, ALL, some(a=1))
        wrong = {
            "doors": ODD + (("a", "b", "c", "d", "e"), ("a", "a"), ("a", "b", "a"), ["a"], "a", {"a": 1}, ("a", None)),
            "groups": ODD + (one, [one], (one,) * 7, ((0, ALL, some(a=1)),), ((41, ALL, some(a=1)),), ((1, ("well", 1), some(a=1)),),
                             ((1, ALL, None),), ((True, ALL, some(a=1)),), ((1, ALL),), (one, None)),
            "tokens": [value for value in ODD if value is not None and not isinstance(value, Amounts)] + [(("a", 1),), "a 1"],
            "limit": [value for value in ODD if isinstance(value, bool) or not isinstance(value, int) or not 1 <= value <= 7] + [100001],
            "grade": [value for value in ODD if isinstance(value, bool) or not isinstance(value, int) or not 0 <= value <= 7] + [101],
            "after": [value for value in ODD if value is not None] + [ALL, GPU, ("well", 0), ("well", 1000001), ("and", (("well", 1),))],
        }
        for word, values in wrong.items():
            for value in values:
                self.refused(InvalidJob, job_of, **{word: value})
                self.refused(InvalidJob, job_of().changed, **{word: value})

    def test_totals_that_are_no_amounts(self):
        for groups, tokens in ((((1, ALL, kinds(60)),), some(z=1)), (((1, ALL, kinds(59)), (1, ALL, some(y=1, z=1))), None),
                               (((2, ALL, some(a=500001)),), None), (((40, ALL, some(a=1000000)),), None),
                               (((1, ALL, some(a=1000000)),), some(a=1)), (((1, ALL, some(a=600000)), (1, GPU, some(a=400001))), None)):
            self.refused(InvalidJob, job_of, groups=groups, tokens=tokens)
        self.refused(InvalidJob, job_of(groups=((1, ALL, kinds(60)),)).changed, tokens=some(z=1))

    def test_changed(self):
        job = job_of(tokens=some(lic=1), grade=7, after=("well", 3))
        for word, value in (("name", "new"), ("account", "web"), ("person", "bob"), ("doors", ("day",)), ("groups", GROUPS[:1]),
                            ("tokens", some(lic=2)), ("limit", 60), ("grade", 0), ("after", ("ill", 3))):
            other = job.changed(**{word: value})
            self.assertEqual(getattr(other, word), value)
            self.assertIs(job == other, False)
            self.assertIs(job != other, True)
            for rest in WORDS:
                if rest != word:
                    self.assertEqual(getattr(other, rest), getattr(job, rest))
            self.assertEqual(other.changed(**{word: getattr(job, word)}), job)
        self.assertEqual(job.changed(), job)
        self.assertEqual((job.changed(tokens=None).tokens, job.changed(after=None).after), (Amounts(), None))
        self.assertEqual(job.changed(limit=5, name="b", grade=1), job_of("b", tokens=some(lic=1), grade=1, limit=5, after=("well", 3)))
        for word in ("machines", "size", "total", "group", "Name", "", "x"):
            self.refused(InvalidJob, job.changed, **{word: 1})
            self.refused(InvalidJob, job.changed, limit=5, **{word: None})
        self.assertEqual(job, job_of(tokens=some(lic=1), grade=7, after=("well", 3)))

    def test_equality(self):
        self.assertIs(job_of() == job_of(), True)
        self.assertIs(job_of() != job_of(), False)
        self.assertIs(job_of(tokens=Amounts()) == job_of(), True)
        self.assertIs(job_of(doors=("slow", "fast")) == job_of(), False)
        self.assertIs(job_of(groups=GROUPS[::-1]) == job_of(), False)
        for value in ODD:
            self.assertIs(job_of() == value, False)
            self.assertIs(job_of() != value, True)

    def test_totals_against_sums(self):
        chance = random.Random(51)
        for _ in range(300):
            groups = tuple([(chance.randrange(1, 41), ALL, some(**{kind: chance.randrange(1, 9) for kind in chance.sample("abcd", chance.randrange(5))}))
                            for _ in range(chance.randrange(1, 7))])
            tokens = some(**{kind: chance.randrange(1, 9) for kind in chance.sample("abcz", chance.randrange(4))})
            job, total, size = a_job(groups=groups, tokens=tokens), tokens, 0
            for count, _, amounts in groups:
                total = total + amounts * count
                size += count * sum([number for _, number in amounts])
            self.assertEqual((job.total, job.size, job.machines), (total, max(size, 1), sum([row[0] for row in groups])))
