"""Points 11.1 to 11.6: yards and places."""

import random
import time

from toldstarts.base.amounts import Amounts
from toldstarts.errors import InvalidAmounts, InvalidChoice, InvalidHouse, InvalidJob, InvalidMachine, InvalidNumber, InvalidTick
from toldstarts.errors import Refused, TooMany, UnknownName
from toldstarts.house.machines import Machine
from toldstarts.plan import asks, ground, places as module, table
from toldstarts.plan.places import Yard, earliest_place, is_place, is_place_bars, place_bars
from toldstarts.room.rooms import Room
from helper import Case, some
from odd import EVERY, NO_ASKS, NO_PLACES, NO_TICKS, all_but, no_integers
from yards import ALL, BIG, NOTHING, all_places_at, free_of, free_of_house, group, is_open, is_plain_bars, plain_earliest, plain_head
from yards import fair_ask, some_ask, some_yard, want

CORES = some(core=2)
MACHINES = (Machine("a", some(core=4)), Machine("b", CORES))
YARD = Yard(MACHINES, some(lic=3), period=10)
BOTH, ONE = (want(group(2, core=2)),), (want(group(1, core=2)),)
LICENSED = (want(group(1, core=2), lic=2), want(group(1, core=4)))
FIRST = YARD.with_place(7, (0, 0, ((0, 1),)), 5, BOTH)
FORTY = tuple([Machine("m%d" % at, some(core=2), rack="r" + "abcdefgh"[at % 8]) for at in range(40)])


def crowded():
    """A yard with places, shut spans and a window of all kinds."""
    return FIRST.with_place(3, (5, 0, ((1,),)), 3, LICENSED).with_shut(0, 9, 12).with_shut(1, 20, None).with_window(0, 8, 1)


class Making(Case):
    def test_constants(self):
        self.assertEqual((module.MAX_PLACES, module.MAX_TICKS_LOOKED), (200, 20000))
        self.assertEqual((module.MAX_PLACES, module.MAX_SPANS, module.MAX_TICKS_LOOKED), (table.MOST_STAYS, table.MOST_SPANS, ground.MOST_LOOKED))
        self.assertEqual((asks.MAX_KEY, asks.MAX_LENGTH, asks.MAX_START), (10 ** 6, 10 ** 6, 10 ** 9))

    def test_new_yards(self):
        yard = Yard(MACHINES)
        self.assertEqual((yard.machines, yard.amounts, yard.period, yard.head, yard.shut_spans, yard.windows, yard.places, len(yard), list(yard)),
                         (MACHINES, NOTHING, 1, 0, (), (), {}, 0, []))
        self.assertEqual(Yard(MACHINES, None), Yard(MACHINES, NOTHING))
        self.assertEqual([Yard(MACHINES, CORES, period=period).period for period in (1, 10000)], [1, 10000])
        self.assertEqual(Yard(FORTY).machines, FORTY)
        self.assertEqual([str(yard), str(FIRST), str(Yard(FORTY))], ["yard of 2 machines, 0 places", "yard of 2 machines, 1 places", "yard of 40 machines, 0 places"])

    def test_wrong_arguments(self):
        more = FORTY + (Machine("z", CORES, rack="ra"),)
        for value in EVERY + (MACHINES[0], list(MACHINES), MACHINES + MACHINES[:1], MACHINES + (Machine("a", CORES),), more,
                              MACHINES + (None,), FORTY[:39] + (Machine("z", CORES, rack="ri"),)):
            self.refused(InvalidMachine, Yard, value, 5, period=0)
        self.assertEqual(len(Yard(more[1:]).machines), 40)
        for value in all_but(Amounts):
            if value is not None:
                self.refused(InvalidAmounts, Yard, MACHINES, value, period=0)
        for value in no_integers(1, 10000):
            self.assertIs(self.refused(InvalidNumber, Yard, MACHINES, period=value).given, value)

    def test_yards_never_change(self):
        before = crowded()
        self.assertEqual(before, crowded())
        before.with_place(1, (30, 0, ((0,),)), 5, ONE)
        before.without_place(7)
        before.with_shut(0, 40, 50)
        before.without_shut(0, 9, 12)
        before.with_window(1, 9, 1)
        before.without_window(0, 8, 1)
        before.with_more(some(lic=5, gpu=1))
        before.places[99] = None
        self.assertEqual(before, crowded())
        for name in ("machines", "amounts", "period", "head", "shut_spans", "windows", "places"):
            with self.assertRaises(AttributeError):
                setattr(before, name, ())

    def test_equality(self):
        one = crowded()
        other = YARD.with_window(0, 8, 1).with_shut(1, 20, None).with_shut(0, 9, 12).with_place(3, (5, 0, ((1,),)), 3, LICENSED)
        other = other.with_place(7, (0, 0, ((0, 1),)), 5, BOTH)
        self.assertIs(one == other, True)
        self.assertIs(one != other, False)
        self.assertEqual(list(one.places), list(other.places))
        for value in EVERY + (one.without_place(3), one.without_shut(0, 9, 12), one.without_window(0, 8, 1), one.with_more(some(lic=1)), YARD,
                              one.without_place(3).with_place(3, (5, 0, ((0,),)), 3, LICENSED), one.without_place(3).with_place(4, (5, 0, ((1,),)), 3, LICENSED),
                              one.without_place(3).with_place(3, (5, 0, ((1,),)), 3, ONE), one.without_place(3).with_place(3, (5, 0, ((1,),)), 2, LICENSED)):
            self.assertIs(one == value, False)
            self.assertIs(one != value, True)
        self.assertNotEqual(YARD, Yard(MACHINES, some(lic=3), period=9))
        self.assertNotEqual(YARD, Yard(MACHINES[::-1], some(lic=3), period=10))

    def test_keys(self):
        yard = crowded()
        self.assertEqual((list(yard), len(yard), list(yard.places)), ([3, 7], 2, [3, 7]))
        self.assertEqual([value for value in EVERY + (3, 8) if value in yard], [7, 3])
        one = YARD.with_place(1, (0, 0, ((0,),)), 5, ONE)
        self.assertEqual([True in one, 1 in one], [False, True])
        self.assertEqual(one.places, {1: ((0, 0, ((0,),)), 5, ONE)})


class Placing(Case):
    def test_with_and_without(self):
        yard = crowded()
        self.assertEqual(yard.places, {3: ((5, 0, ((1,),)), 3, LICENSED), 7: ((0, 0, ((0, 1),)), 5, BOTH)})
        self.assertEqual(yard.without_place(7).without_place(3).places, {})
        self.assertEqual(yard.without_place(7).without_place(3), YARD.with_shut(0, 9, 12).with_shut(1, 20, None).with_window(0, 8, 1))
        for value in EVERY + (8, 10 ** 6):
            if value not in (3, 7):
                self.assertIs(self.refused(UnknownName, yard.without_place, value).wanted, value)
        self.assertIs(self.refused(UnknownName, YARD.with_place(1, (0, 0, ((0,),)), 5, ONE).without_place, True).wanted, True)

    def test_edges(self):
        long = YARD.with_place(0, (0, 0, ((0,),)), 10 ** 6, ONE).with_place(10 ** 6, (10 ** 9, 0, ((0, 1),)), 10 ** 6, BOTH)
        self.assertEqual([long.head, list(long)], [10 ** 9 + 10 ** 6, [0, 10 ** 6]])
        self.assertEqual(earliest_place(long, BOTH, 10 ** 6, 10 ** 6), (10 ** 6, 0, ((0, 1),)))
        self.assertEqual(earliest_place(long, BOTH, 10 ** 6, 0), (0, 0, ((0, 1),)))

    def test_errors_in_order(self):
        place, yard = (0, 0, ((0, 1),)), FIRST
        for key in no_integers(0, 10 ** 6):
            self.assertIs(self.refused(InvalidNumber, yard.with_place, key, None, 0, None).given, key)
        for length in no_integers(1, 10 ** 6):
            self.assertIs(self.refused(InvalidNumber, yard.with_place, 7, None, length, None).given, length)
        for ask in NO_ASKS:
            self.refused(InvalidJob, yard.with_place, 7, None, 5, ask)
        for value in NO_PLACES:
            self.refused(InvalidChoice, yard.with_place, 7, value, 5, BOTH)
        self.assertEqual(self.refused(Refused, yard.with_place, 7, place, 5, BOTH).reason, ("taken", 7))
        self.assertEqual(self.refused(Refused, yard.with_place, 8, place, 5, BOTH).reason, ("unfit", 8))
        self.assertEqual(yard, FIRST)

    def test_no_machine_twice(self):
        ask = (want(group(), group()),)
        self.refused(InvalidChoice, YARD.with_place, 1, (0, 0, ((0,), (0,))), 5, ask)
        self.assertEqual(len(YARD.with_place(1, (0, 0, ((1,), (0,))), 5, ask)), 1)

    def test_unfit(self):
        marked = Yard((Machine("a", CORES, marks=("big",)), Machine("b", CORES)), some(lic=1), period=10).with_window(0, 8, 3).with_shut(1, 4, 6)
        for place, length, ask, fits in (((0, 0, ((0,),)), 8, ONE, True), ((0, 0, ((0,),)), 9, ONE, False), ((1, 0, ((0,),)), 7, ONE, True), ((11, 0, ((0,),)), 7, ONE, True),
                                         ((10, 0, ((0,),)), 1, ONE, False), ((0, 0, ((1,),)), 4, ONE, True), ((0, 0, ((1,),)), 5, ONE, False), ((5, 0, ((1,),)), 1, ONE, False),
                                         ((6, 0, ((1,),)), 10 ** 6, ONE, True), ((0, 0, ((1,),)), 1, (want(group(form=BIG)),), False), ((0, 0, ((0,),)), 1, (want(group(form=BIG)),), True),
                                         ((0, 0, ((0,),)), 1, (want(group(core=3)),), False), ((0, 0, ((0,),)), 1, (want(group(gpu=1)),), False),
                                         ((0, 0, ((0,),)), 1, (want(group(), lic=2),), False), ((0, 0, ((0,),)), 1, (want(group(), lic=1),), True), ((0, 0, ((0,),)), 1, (want(group(), gpu=1),), False),
                                         ((8, 0, ((1,),)), 3, ONE, True), ((8, 0, ((0,),)), 1, (want(group()),), False)):
            self.assertIs(is_place(marked, ask, length, place), fits, (place, length))
            if fits:
                self.assertEqual(list(marked.with_place(5, place, length, ask)), [5])
            else:
                self.assertEqual(self.refused(Refused, marked.with_place, 5, place, length, ask).reason, ("unfit", 5))

    def test_two_hundred_places_and_one_more(self):
        yard = Yard((Machine("a", some(core=1000)),))
        for key in range(200):
            yard = yard.with_place(key, (key, 0, ((0,),)), 500, (want(group(core=1)),))
        self.assertEqual(len(yard), 200)
        self.assertEqual(self.refused(TooMany, yard.with_place, 200, (0, 0, ((0,),)), 5, ONE).most, 200)
        self.assertEqual(self.refused(Refused, yard.with_place, 199, (0, 0, ((0,),)), 5, ONE).reason, ("taken", 199))
        self.assertEqual(self.refused(Refused, yard.with_place, 200, (0, 0, ((0,),)), 1000, (want(group(core=1000)),)).reason, ("unfit", 200))
        self.assertEqual(len(yard.without_place(5).with_place(200, (0, 0, ((0,),)), 5, ONE)), 200)

    def test_against_the_words(self):
        chance, found = random.Random(111), {True: 0, False: 0}
        for _ in range(400):
            yard, ask, length, start = some_yard(chance), some_ask(chance), chance.randrange(1, 6), chance.randrange(14)
            every = all_places_at(yard, ask, length, start)
            values = every + [(start, door, tuple([tuple(sorted(chance.sample(range(4), min(4, one[0])))) for one in ask[door][0]])) for door in range(len(ask)) for _ in range(3)]
            for value in values:
                fits = value in every
                found[fits] += 1
                self.assertIs(is_place(yard, ask, length, value), fits)
                if fits:
                    made = yard.with_place(1000, value, length, ask)
                    self.assertEqual((made.places[1000], made.head), ((value, length, ask), max(yard.head, start + length)))
                    self.assertEqual(made.without_place(1000), yard)
                else:
                    self.assertIn(type(self.any_error(yard.with_place, 1000, value, length, ask)), (InvalidChoice, Refused))
        self.assertGreater(min(found.values()), 200)

    def any_error(self, call, *args):
        with self.assertRaises(Exception) as caught:
            call(*args)
        return caught.exception


class Shutting(Case):
    def test_spans(self):
        yard = YARD.with_shut(1, 5, None).with_shut(0, 7, 9).with_shut(1, 5, 8).with_shut(0, 7, 8).with_shut(1, 0, 1000000)
        self.assertEqual(yard.shut_spans, ((0, 7, 8), (0, 7, 9), (1, 0, 1000000), (1, 5, 8), (1, 5, None)))
        self.assertEqual(yard.without_shut(1, 5, 8).without_shut(0, 7, 9).shut_spans, ((0, 7, 8), (1, 0, 1000000), (1, 5, None)))
        self.assertEqual([yard.head, YARD.with_shut(0, 7, 9).head, YARD.with_shut(0, 7, None).head, YARD.with_shut(0, 1000000, None).head], [1000000, 9, 7, 1000000])

    def test_windows(self):
        yard = YARD.with_window(1, 9, 10).with_window(0, 3, 1).with_window(1, 0, 1)
        self.assertEqual(yard.windows, ((0, 3, 1), (1, 0, 1), (1, 9, 10)))
        self.assertEqual([yard.head, yard.without_window(1, 9, 10).windows, yard.without_window(1, 9, 10).head], [9, ((0, 3, 1), (1, 0, 1)), 3])
        self.assertEqual([tick for tick in range(30) if YARD.with_window(1, 8, 4).free(1, tick, tick + 1) is None], [8, 9, 10, 11, 18, 19, 20, 21, 28, 29])
        self.assertEqual([tick for tick in range(30) if YARD.with_window(1, 8, 10).free(1, tick, tick + 1) is None], list(range(8, 30)))

    def test_errors_in_order(self):
        for machine in no_integers(0, 1):
            for call in (YARD.with_shut, YARD.with_window, YARD.free):
                self.assertIs(self.refused(InvalidNumber, call, machine, None, 0).given, machine)
        for tick in NO_TICKS:
            self.refused(InvalidTick, YARD.with_shut, 0, tick, None)
            self.refused(InvalidTick, YARD.free, 0, tick, 1000000)
            self.refused(InvalidTick, YARD.free, 0, 0, tick)
            if tick is not None:
                self.refused(InvalidTick, YARD.with_shut, 0, 0, tick)
        for begin, end in ((5, 5), (5, 4), (1000000, 1000000)):
            self.refused(InvalidTick, YARD.with_shut, 0, begin, end)
            self.refused(InvalidTick, YARD.free, 0, begin, end)
        for begin in no_integers(0, 9):
            self.refused(InvalidTick, YARD.with_window, 0, begin, 1)
        for length in no_integers(1, 10):
            self.refused(InvalidTick, YARD.with_window, 0, 0, length)
        every = Yard(MACHINES).with_window(0, 0, 1)
        self.refused(InvalidTick, every.with_window, 1, 1, 1)
        self.refused(InvalidTick, every.with_window, 1, 0, 2)

    def test_twice_and_met(self):
        yard = crowded()
        self.assertEqual(self.refused(Refused, yard.with_shut, 0, 9, 12).reason, ("twice",))
        self.assertEqual(self.refused(Refused, yard.with_shut, 1, 20, None).reason, ("twice",))
        self.assertEqual(self.refused(Refused, yard.with_window, 0, 8, 1).reason, ("twice",))
        for machine, begin, end, keys in ((1, 0, None, (3, 7)), (1, 0, 5, (7,)), (1, 4, 6, (3, 7)), (1, 7, 8, (3,)), (0, 0, 1, (7,)), (0, 4, 100, (7,))):
            self.assertEqual(self.refused(Refused, yard.with_shut, machine, begin, end).reason, ("met", keys))
        for machine, begin, length, keys in ((1, 0, 1, (7,)), (1, 5, 3, (3,)), (1, 4, 2, (3, 7)), (0, 4, 1, (7,)), (1, 9, 10, ())):
            if keys:
                self.assertEqual(self.refused(Refused, yard.with_window, machine, begin, length).reason, ("met", keys))
            else:
                self.assertEqual(len(yard.with_window(machine, begin, length).windows), 2)
        self.assertEqual(len(yard.with_shut(0, 5, 9).with_shut(1, 8, None).with_shut(1, 8, 9).shut_spans), 5)
        self.assertEqual(yard, crowded())

    def test_as_many_as_there_can_be(self):
        yard = YARD.with_place(1, (500, 0, ((0,),)), 5, ONE)
        for at in range(200):
            yard = yard.with_shut(1, at, None)
        self.assertEqual(self.refused(TooMany, yard.with_shut, 0, 0, 5).most, 200)
        self.assertEqual(self.refused(Refused, yard.with_shut, 1, 0, None).reason, ("twice",))
        self.assertEqual(self.refused(Refused, yard.with_shut, 0, 0, None).reason, ("met", (1,)))
        self.assertEqual(len(yard.without_shut(1, 7, None).with_shut(0, 0, 5).shut_spans), 200)
        turning = Yard(FORTY, period=50)
        for at in range(40):
            turning = turning.with_window(at % 3, at, 2)
        self.assertEqual(self.refused(TooMany, turning.with_window, 0, 45, 1).most, 40)
        self.assertEqual(self.refused(Refused, turning.with_window, 0, 0, 2).reason, ("twice",))

    def test_what_there_is_not(self):
        yard = YARD.with_shut(1, 1, 5).with_shut(1, 2, None).with_window(1, 1, 5)
        for triple in ((1, 1, None), (1, 1, 6), (0, 1, 5), (True, 1, 5), (1, True, 5), (1, 2, 5), ("a", 1, 5), (1, 1, [5]), (5, 1, 5)):
            self.assertEqual(self.refused(UnknownName, yard.without_shut, *triple).wanted, triple)
            self.assertEqual(self.refused(UnknownName, yard.without_window, *triple).wanted, triple)
        for value in EVERY:
            self.assertEqual(self.refused(UnknownName, yard.without_shut, value, 0, 3).wanted[0], value)
            self.assertEqual(self.refused(UnknownName, yard.without_window, 0, value, value).wanted[1], value)

    def test_free_against_the_words(self):
        chance, found = random.Random(112), [0, 0]
        for _ in range(300):
            yard = some_yard(chance)
            self.assertEqual(yard.head, plain_head(yard))
            for _ in range(6):
                machine, begin, length = chance.randrange(len(yard.machines)), chance.randrange(20), chance.randrange(1, 8)
                ticks = range(begin, begin + length)
                free = yard.free(machine, begin, begin + length)
                found[free is None] += 1
                if free is None:
                    self.assertFalse(all([is_open(yard, machine, tick) for tick in ticks]))
                else:
                    self.assertTrue(all([is_open(yard, machine, tick) for tick in ticks]))
                    least = [(kind, min([free_of(yard, machine, kind, tick) for tick in ticks])) for kind in yard.machines[machine].amounts.kinds]
                    self.assertEqual(free, Amounts(tuple([pair for pair in least if pair[1]])))
            for tick in range(yard.head, yard.head + 12):
                self.assertEqual([yard.free(at, tick, tick + 1) for at in range(len(yard.machines))],
                                 [yard.free(at, tick + yard.period, tick + yard.period + 1) for at in range(len(yard.machines))])
        self.assertGreater(min(found), 200)
        self.assertEqual([YARD.free(0, 0, 1000000), YARD.with_shut(0, 999999, None).free(0, 999999, 1000000)], [some(core=4), None])


class WholeHouse(Case):
    def test_house_room(self):
        yard = crowded().with_place(5, (1, 0, ((0,),)), 4, (want(group(core=1), lic=1),))
        room = yard.house_room()
        self.assertEqual(room, Room(some(lic=3), period=10).with_claim((5, 8, some(lic=2))).with_claim((1, 5, some(lic=1))))
        self.assertEqual(room.claims, ((5, 8, some(lic=2)), (1, 5, some(lic=1))))
        self.assertEqual(YARD.house_room(), Room(some(lic=3), period=10))

    def test_house_rooms_end_with_the_ticks(self):
        ask = (want(group(core=1), lic=1),)
        late = YARD.with_place(1, (999999, 0, ((0,),)), 1, ask)
        self.assertEqual(late.house_room().claims, ((999999, 1000000, some(lic=1)),))
        later = YARD.with_place(1, (999999, 0, ((0,),)), 2, ask)
        self.assertEqual(self.refused(TooMany, later.house_room).most, 1000000)
        self.assertEqual(YARD.with_place(1, (999999, 0, ((0,),)), 2, ONE).house_room().claims, ())

    def test_against_the_words(self):
        chance = random.Random(113)
        for _ in range(200):
            yard = some_yard(chance)
            room = yard.house_room()
            for tick in range(20):
                for kind in ("lic", "seat"):
                    self.assertEqual(room.free(tick)[kind], free_of_house(yard, kind, tick))

    def test_with_more(self):
        yard = crowded().with_more(some(gpu=2)).with_more(some(gpu=1, lic=4))
        self.assertEqual((yard.amounts, yard.without_place(3).amounts), (some(gpu=3, lic=7),) * 2)
        ask = (want(group(core=1), gpu=3, lic=5),)
        self.assertEqual(earliest_place(yard, ask, 9, 0), (8, 0, ((1,),)))
        self.assertEqual(earliest_place(yard.with_more(some(lic=1)), ask, 5, 5), (8, 0, ((1,),)))
        self.assertEqual(earliest_place(crowded(), ask, 5, 5), None)
        for value in all_but(Amounts):
            self.refused(InvalidAmounts, YARD.with_more, value)
        self.refused(InvalidAmounts, YARD.with_more, some(lic=999998))
        self.assertEqual(YARD.with_more(some(lic=999997)).amounts, some(lic=1000000))
        self.assertEqual(YARD.with_more(NOTHING), YARD)
        kinds = tuple(sorted([("t" + "abcdefghij"[at // 10] + "abcdefghij"[at % 10], 1) for at in range(60)]))
        self.refused(InvalidAmounts, YARD.with_more, Amounts(kinds))
        self.assertEqual(len(YARD.with_more(Amounts(kinds[1:])).amounts), 60)


class Searching(Case):
    def test_against_a_plain_search(self):
        chance, found = random.Random(114), [0, 0, 0]
        for _ in range(500):
            yard = some_yard(chance)
            for _ in range(3):
                ask, length, since = fair_ask(chance, yard), chance.randrange(1, 8), chance.randrange(14)
                place, bars = earliest_place(yard, ask, length, since), place_bars(yard, ask, length, since)
                self.assertEqual(place, plain_earliest(yard, ask, length, since))
                self.assertTrue(is_plain_bars(yard, ask, length, since, bars))
                self.assertIs(is_place_bars(yard, ask, length, since, bars), True)
                end = bars[-1][1] if bars else since
                if place is None:
                    self.assertGreaterEqual(end, max(since, yard.head) + yard.period)
                else:
                    self.assertEqual(end, place[0])
                    self.assertIs(is_place(yard, ask, length, place), True)
                found[0 if place is None else 1 if place[0] == since else 2] += 1
        self.assertGreater(min(found), 100)

    def test_kept_and_left_racks(self):
        """The earliest place is not the one in the fewest racks."""
        yard = Yard(tuple([Machine("abc"[at], CORES, rack="xyy"[at]) for at in range(3)])).with_place(1, (0, 0, ((2,),)), 5, ONE)
        self.assertEqual([earliest_place(yard, BOTH, 3, 0), earliest_place(yard, BOTH, 3, 5)], [(0, 0, ((0, 1),)), (5, 0, ((1, 2),))])

    def test_the_least_door(self):
        ask = (want(group(1, core=4), lic=2), want(group(1, core=2)), want(group(1, core=1)))
        self.assertEqual([earliest_place(FIRST, ask, 3, since)[:2] for since in (0, 4, 5)], [(0, 1), (4, 1), (5, 0)])
        self.assertEqual(earliest_place(FIRST, ask[:2], 3, 0), (0, 1, ((0,),)))
        self.assertEqual(earliest_place(FIRST, ask[:1], 3, 0), (5, 0, ((0,),)))

    def test_windows_that_wrap_begin_with_their_first_turn(self):
        yard = Yard(MACHINES[1:], period=10).with_window(0, 7, 6)
        self.assertEqual([earliest_place(yard, ONE, length, since) for length, since in ((7, 0), (3, 1), (4, 1), (4, 8), (5, 0), (5, 3))],
                         [(0, 0, ((0,),)), (1, 0, ((0,),)), (1, 0, ((0,),)), (13, 0, ((0,),)), (0, 0, ((0,),)), None])

    def test_one_window_ahead_of_a_place(self):
        """A run that begins behind the window goes on into the place, one that would not begins in the window."""
        yard = Yard(MACHINES[1:], period=20).with_place(1, (5, 0, ((0,),)), 3, ONE).with_window(0, 0, 3)
        self.assertEqual([earliest_place(yard, ONE, length, 0)[0] for length in (1, 2, 3, 4, 12)], [3, 3, 8, 8, 8])
        self.assertEqual([earliest_place(yard, ONE, 13, since)[0] for since in (0, 8, 9)], [23, 23, 23])

    def test_far_ahead(self):
        """Periods and ticks are not gone through one by one."""
        yard = Yard(MACHINES, period=10000).with_window(0, 9000, 900).with_window(1, 0, 8950).with_shut(0, 0, 1000000)
        self.assertEqual([earliest_place(yard, BOTH, length, 0) for length in (50, 51, 100, 101)], [(1008950, 0, ((0, 1),)), (1009900, 0, ((0, 1),)), (1009900, 0, ((0, 1),)), None])
        self.assertEqual(earliest_place(yard, ONE, 1050, 0), (8950, 0, ((1,),)))
        self.assertEqual(earliest_place(yard, ONE, 1051, 0), (1000000, 0, ((0,),)))
        far = Yard(MACHINES).with_place(1, (10 ** 9, 0, ((0, 1),)), 10 ** 6, BOTH).with_place(2, (0, 0, ((0, 1),)), 10 ** 6, BOTH)
        self.assertEqual(earliest_place(far, BOTH, 10 ** 6, 7), (10 ** 6, 0, ((0, 1),)))

    def test_twenty_thousand_ticks_and_one_more(self):
        always = Yard(MACHINES, period=1).with_window(0, 0, 1)
        for shut, is_fine in ((always.with_shut(1, 0, 19999), True), (always.with_shut(1, 0, 20000), False)):
            for call in (earliest_place, place_bars):
                if is_fine:
                    self.assertIn(call(shut, BOTH, 5, 0), (None, place_bars(shut, BOTH, 5, 0)))
                    self.assertEqual(self.refused(TooMany, call, shut.with_shut(1, 5, 20000), BOTH, 5, 0).most, 20000)
                else:
                    self.assertEqual(self.refused(TooMany, call, shut, BOTH, 5, 0).most, 20000)
                    self.assertEqual(earliest_place(shut, ONE, 5, 1), (20000, 0, ((1,),)))
        # Ends of places and spans count once, and not beside ends of windows.
        half = Yard(MACHINES, period=2).with_window(0, 0, 1).with_shut(1, 0, 39997)
        self.assertEqual(earliest_place(half, BOTH, 1, 0), (39997, 0, ((0, 1),)))
        self.assertEqual(earliest_place(half.with_shut(1, 7, 9).with_shut(1, 3, 9), BOTH, 1, 0), (39997, 0, ((0, 1),)))
        for more in (half.with_shut(1, 7, 10), half.with_place(1, (1, 0, ((0,),)), 1, ONE)):
            self.assertEqual(self.refused(TooMany, earliest_place, more, BOTH, 1, 0).most, 20000)
        self.refused(InvalidTick, earliest_place, half.with_shut(1, 7, 10), BOTH, 1, -1)
        self.assertIs(is_place_bars(half.with_shut(1, 7, 10), BOTH, 1, 39999, ()), True)

    def test_a_place_that_ends_with_the_first_turn_of_a_window(self):
        yard = Yard(MACHINES, period=10).with_window(0, 1, 2).with_place(1, (0, 0, ((1,),)), 3, ONE)
        for length, many in ((3, 2), (2, 2), (13, 3)):
            ends = module.ground_of(yard.without_place(1).with_place(1, (0, 0, ((1,),)), length, ONE))
            self.assertEqual(ground._looked_ticks(ends, 0), many)

    def test_counted_ticks_against_the_words(self):
        chance = random.Random(115)
        for _ in range(150):
            yard = some_yard(chance)
            since = chance.randrange(20)
            last = max(since, plain_head(yard)) + yard.period
            ends = [place[0] + length for place, length, _ in yard.places.values()] + [end for _, _, end in yard.shut_spans if end is not None]
            ends += [begin + length + turn * yard.period for _, begin, length in yard.windows for turn in range(100)]
            self.assertEqual(ground._looked_ticks(module.ground_of(yard), since), len(set([end for end in ends if since < end <= last])))

    def test_errors_in_order(self):
        calls = (earliest_place, place_bars, lambda *args: is_place_bars(*args, ()))
        for yard in all_but(Yard):
            for call in calls:
                self.refused(InvalidHouse, call, yard, None, None, None)
            self.refused(InvalidHouse, is_place, yard, None, None, None)
        for ask in NO_ASKS:
            for call in calls:
                self.refused(InvalidJob, call, YARD, ask, None, None)
            self.refused(InvalidJob, is_place, YARD, ask, None, None)
        for length in no_integers(1, 10 ** 6):
            for call in calls:
                self.assertIs(self.refused(InvalidNumber, call, YARD, BOTH, length, None).given, length)
            self.assertIs(self.refused(InvalidNumber, is_place, YARD, BOTH, length, None).given, length)
        for tick in NO_TICKS:
            for call in calls:
                self.refused(InvalidTick, call, YARD, BOTH, 1, tick)
        for value in NO_PLACES:
            self.assertIs(is_place(YARD, BOTH, 5, value), False)

    def test_more_and_fewer_places(self):
        """11.6: taking a place out makes no earliest start later."""
        chance = random.Random(116)
        for _ in range(150):
            yard = some_yard(chance, 9)
            for key in yard:
                ask, length, since = some_ask(chance), chance.randrange(1, 7), chance.randrange(9)
                place, other = earliest_place(yard, ask, length, since), earliest_place(yard.without_place(key), ask, length, since)
                if place is not None:
                    self.assertLessEqual(other[0], place[0])

    def test_the_greatest_yards(self):
        """Where a test looks at the time, it allows several times what it takes."""
        yard, forty = Yard(FORTY), (want(group(40, core=1)),)
        begin = time.perf_counter()
        for key in range(200):
            yard = yard.with_place(key, earliest_place(yard, forty, 7, 0), 7, forty)
        self.assertLess(time.perf_counter() - begin, 1.0)
        self.assertEqual((yard.head, earliest_place(yard, forty, 9, 0)), (700, (700, 0, (tuple(range(40)),))))
        six = (tuple([(1, ALL, CORES)] * 5 + [(35, ALL, CORES)]), NOTHING)
        self.assertEqual(earliest_place(yard, (six,), 9, 0), (700, 0, ((0,), (1,), (2,), (3,), (4,), tuple(range(5, 40)))))
        begin = time.perf_counter()
        half = Yard(FORTY, period=2).with_window(0, 0, 1).with_shut(1, 0, 39990)
        for _ in range(20):
            earliest_place(half, (want(group(40, core=1)),), 1, 0)
            earliest_place(yard, (six,), 9, 0)
        self.assertLess(time.perf_counter() - begin, 1.0)


class Bars(Case):
    def test_examples(self):
        bars = ((0, 5, (("groups", (0,), ((1, 0, 0, 4, "core"),)),)),)
        self.assertEqual([is_place_bars(FIRST, BOTH, 5, 0, bars), is_place_bars(FIRST, BOTH, 5, 0, ())], [True, False])
        self.assertIs(is_place_bars(FIRST, BOTH, 5, 5, ()), True)
        self.assertIs(is_place_bars(FIRST, BOTH, 5, 0, bars + ((5, 6, bars[0][2]),)), False)

    def test_bars_of_other_makers(self):
        def row(begin, end, first, last):
            return (begin, end, (("groups", (0,), ((1, 0, first, last, "core"),)),))

        for bars, right in (((row(0, 1, 0, 4), row(1, 5, 4, 4)), True), ((row(0, 5, 4, 4),), True), ((row(0, 4, 0, 3), row(4, 5, 4, 4)), True),
                            ((row(0, 5, 0, 3),), False), ((row(0, 5, 0, 5),), False), ((row(0, 4, 0, 4),), False), ((row(0, 4, 0, 4), row(4, 6, 4, 5)), False),
                            ((row(0, 2, 0, 4), row(3, 5, 4, 4)), False), ((row(1, 5, 1, 4),), False), ((row(0, 0, 0, 4), row(0, 5, 4, 4)), False),
                            ((row(0, 5, 5, 4),), False), ((row(0, 5, -1, 4),), False), ((row(0, 5, False, 4),), False), ((row(False, 5, 0, 4),), False),
                            ([row(0, 5, 0, 4)], False), ((list(row(0, 5, 0, 4)),), False), ((row(0, 5, 0, 4) + (1,),), False), ((row(0, 5, 0, 10 ** 70),), False)):
            self.assertIs(is_place_bars(FIRST, BOTH, 5, 0, bars), right, bars)
        for lacks, right in (((), False), (((1, 0, 0, 4, "core"), (1, 0, 0, 4, "core")), False), (((1, 0, 0, 4, "core"), (1, 0, 4, 4, "core")), True),
                             (((1, 0, 4, 4, "core"), (1, 0, 0, 4, "core")), False), (((0, 0, 0, 4, "core"), (1, 0, 0, 4, "core")), False), (((1, 0, 0, 4, ""),), False),
                             (((1, 0, 0, 4, "gpu"),), False), (((1, 0, 0, 4, "nothing"),), False), (((2, 0, 0, 4, "core"),), False), (((True, 0, 0, 4, "core"),), False),
                             (((1, False, 0, 4, "core"),), False), (((1, 1, 0, 4, "core"),), False), (((1, 0, 0, 4),), False), (((1, 0, 0, 4, ["core"]),), False),
                             ([(1, 0, 0, 4, "core")], False), (([1, 0, 0, 4, "core"],), False)):
            self.assertIs(is_place_bars(FIRST, BOTH, 5, 0, ((0, 5, (("groups", (0,), lacks),)),)), right, lacks)
        for reason in EVERY + (("groups", (), ()), ("groups", (1,), ()), ("groups", (False,), ()), ("groups", [0], ((1, 0, 0, 4, "core"),)), ("group", (0,), ((1, 0, 0, 4, "core"),)),
                               ("groups", (0, 0), ((1, 0, 0, 4, "core"),)), ("short", "core", 0, 4), ("short", "lic", 0, 4), ("groups", (0,), ((1, 0, 0, 4, "core"),), 1)):
            self.assertIs(is_place_bars(FIRST, BOTH, 5, 0, ((0, 5, (reason,)),)), False)
            self.assertIs(is_place_bars(FIRST, BOTH, 5, 0, ((0, 5, reason),)), False)
        self.assertIs(is_place_bars(FIRST, BOTH, 5, 0, ((0, 5, (("groups", (0,), ((1, 0, 0, 4, "core"),)),) * 2),)), False)
        for value in EVERY:
            self.assertIs(is_place_bars(FIRST, BOTH, 5, 0, value), False)
            self.assertIs(is_place_bars(FIRST, BOTH, 5, 0, (value,)), False)

    def test_lacks_of_other_groups(self):
        """A lack may name any group of the want, but only those of the groups told count."""
        ask = (want(group(1, core=2), group(1, core=1), group(1, core=3)),)
        lacks = tuple([(at, which, 0, 4, "core") for at, which in ((0, 2), (1, 0), (1, 1))])
        far = ((1, 2, 0, 10 ** 59, "core"),)
        for indices, told, right in (((0, 1), lacks, True), ((0, 1), lacks[1:], True), ((0, 1), lacks[:2], False), ((1,), lacks, False), ((0,), lacks, False), ((0, 1, 2), lacks, True),
                                     ((0, 1, 2), (), True), ((2,), lacks + far, True), ((2,), lacks, False), ((2,), far, False), ((0, 2), lacks + far, True), ((0, 2), lacks, False),
                                     ((1, 0), lacks, False), ((0, 1), lacks + ((1, 2, 0, 10 ** 60, "core"),), False)):
            bars = ((0, 5, (("groups", indices, told),)), (5, 16, (("groups", (0, 1, 2), ()),)))
            self.assertIs(is_place_bars(FIRST, ask, 5, 0, bars), right, (indices, told))
            if right:
                self.assertTrue(is_plain_bars(FIRST, ask, 5, 0, bars))

    def test_machines_without_the_marks_are_out(self):
        yard = Yard((Machine("a", CORES, marks=("big",)), Machine("b", CORES)))
        self.assertIs(is_place_bars(yard, (want(group(2, BIG)),), 5, 0, ((0, 1, (("groups", (0,), ()),)),)), True)
        self.assertIs(is_place_bars(yard, (want(group(2, ALL)),), 5, 0, ((0, 1, (("groups", (0,), ()),)),)), False)
        self.assertIs(is_place_bars(yard, (want(group(1, BIG)),), 5, 0, ((0, 1, (("groups", (0,), ()),)),)), False)

    def test_short_houses(self):
        ask = (want(group(core=1), lic=2),)
        yard = YARD.with_place(1, (3, 0, ((0,),)), 4, ask)
        for reason, end, right in ((("short", "lic", 3, 6), 7, True), (("short", "lic", 6, 6), 7, True), (("short", "lic", 3, 7), 7, False), (("short", "lic", 2, 6), 7, False),
                                   (("short", "lic", 3, 5), 6, False), (("short", "gpu", 3, 6), 7, False), (("short", ["lic"], 3, 6), 7, False), (("short", "core", 3, 6), 7, False)):
            self.assertIs(is_place_bars(yard, ask, 4, 3, ((3, end, (reason,)),)), right, reason)
        self.assertEqual(place_bars(yard, ask, 4, 0)[0][2][0][:2], ("short", "lic"))
        never = (want(group(core=1), lic=4),)
        self.assertIs(is_place_bars(yard, never, 4, 3, ((3, 17, (("short", "lic", 0, 16),)),)), True)
        self.assertIs(is_place_bars(yard, never, 4, 3, ((3, 16, (("short", "lic", 0, 16),)),)), False)
        self.assertIs(is_place_bars(yard, never, 4, 3, ((3, 10 ** 50, (("short", "lic", 0, 10 ** 59),)),)), True)
        self.assertIs(is_place_bars(yard, (want(group(core=1), gpu=1),), 4, 3, ((3, 10 ** 50, (("short", "gpu", 0, 10 ** 59),)),)), True)

    def test_shut_for_ever(self):
        """Windows that leave nothing open shut a machine for ever; far ticks are not gone through."""
        yard = Yard(MACHINES, period=10).with_window(1, 2, 5).with_window(1, 7, 5).with_shut(1, 0, 2).with_shut(0, 40, None)
        self.assertEqual(yard.head, 40)
        for first, last, right in ((0, 10 ** 59, True), (0, 49, True), (0, 48, False), (49, 49, False)):
            self.assertIs(is_place_bars(yard, BOTH, 1, 0, ((0, 50, (("groups", (0,), ((1, 0, first, last, ""),)),)),)), right, (first, last))
        opened = yard.without_shut(1, 0, 2)
        self.assertIs(is_place_bars(opened, BOTH, 1, 2, ((2, 50, (("groups", (0,), ((1, 0, 2, 10 ** 59, ""),)),)),)), True)
        self.assertIs(is_place_bars(opened, BOTH, 3, 0, ((0, 50, (("groups", (0,), ((1, 0, 2, 10 ** 59, ""),)),)),)), True)
        self.assertIs(is_place_bars(opened, BOTH, 2, 0, ((0, 50, (("groups", (0,), ((1, 0, 2, 10 ** 59, ""),)),)),)), False)
        gap = yard.without_window(1, 7, 5).with_window(1, 7, 4)
        self.assertIs(is_place_bars(gap, BOTH, 1, 0, ((0, 50, (("groups", (0,), ((1, 0, 0, 10 ** 59, ""),)),)),)), False)
        ends = gap.with_shut(0, 8, None)
        self.assertIs(is_place_bars(ends, BOTH, 5, 8, ((8, 50, (("groups", (0,), ((0, 0, 8, 10 ** 59, ""),)),)),)), True)
        self.assertEqual(place_bars(ends, BOTH, 5, 8)[-1][1], 50)
        self.assertLessEqual(max([lack[3] for _, _, reasons in place_bars(ends, BOTH, 5, 8) for lack in reasons[0][2]]), 10 ** 10)

    def test_values_near_the_right_ones(self):
        chance, found = random.Random(117), {True: 0, False: 0}
        for _ in range(250):
            yard, length, since = some_yard(chance), chance.randrange(1, 7), chance.randrange(9)
            ask = fair_ask(chance, yard)
            bars = place_bars(yard, ask, length, since)
            for _ in range(12 if bars else 0):
                other = near_bars(chance, bars)
                right = is_plain_bars(yard, ask, length, since, other)
                found[right] += 1
                self.assertIs(is_place_bars(yard, ask, length, since, other), right, (other, bars))
        self.assertGreater(min(found.values()), 300)

    def test_many_rows(self):
        yard = Yard(MACHINES, period=2).with_window(0, 0, 1).with_shut(1, 0, 39000)
        begin = time.perf_counter()
        bars = place_bars(yard, (want(group(1, core=4)),), 2, 0)
        self.assertEqual(bars[-1][1], 39002)
        self.assertIs(is_place_bars(yard, (want(group(1, core=4)),), 2, 0, bars), True)
        self.assertLess(time.perf_counter() - begin, 5.0)


def near_bars(chance, bars):
    """Bars of the right form that are like others but for one or two numbers, or rows that are parted or joined."""
    rows = list(bars)
    for _ in range(chance.choice((1, 1, 2))):
        at = chance.randrange(len(rows))
        begin, end, reasons = rows[at]
        dice = chance.random()
        if dice < 0.2 and end - begin > 1:
            middle = chance.randrange(begin + 1, end)
            rows[at:at + 1] = [(begin, middle, reasons), (middle, end, reasons)]
        elif dice < 0.3:
            rows[at:] = rows[at + 1:] or rows[at:]
        elif dice < 0.4:
            rows[at] = (begin, end + chance.choice((-1, 1)), reasons)
        else:
            which = chance.randrange(len(reasons))
            reason = reasons[which]
            if reason[0] == "short":
                other = reason[:2] + (reason[2] + chance.choice((-1, 0, 1)), reason[3] + chance.choice((-1, 0, 1)))
            else:
                other = ("groups", reason[1], near_lacks(chance, reason[2]))
            rows[at] = (begin, end, reasons[:which] + (other,) + reasons[which + 1:])
    return tuple(rows)


def near_lacks(chance, lacks):
    if not lacks:
        return lacks
    at = chance.randrange(len(lacks))
    machine, which, first, last, kind = lacks[at]
    moved = (machine, which, first + chance.choice((-1, 0, 1, 2)), last + chance.choice((-1, 0, 1)), chance.choice((kind, kind, kind, "", "core", "mem")))
    return chance.choice((lacks[:at] + lacks[at + 1:], lacks[:at] + (moved,) + lacks[at + 1:], tuple(sorted(lacks[:at] + (moved,) + lacks[at + 1:]))))
