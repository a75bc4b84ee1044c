"""Values of all kinds, with objects of all classes of the package: any parameter may be called with any of them."""

from toldstarts.base.amounts import Amounts
from toldstarts.house.machines import Machine
from toldstarts.jobs.likes import Row
from toldstarts.plan.limits import Doors, Limits
from toldstarts.plan.places import Yard
from toldstarts.plan.told import Board
from toldstarts.rank.accounts import Accounts
from toldstarts.rank.scores import Weights
from toldstarts.sure.lineups import Lineup
from toldstarts.work.desk import Desk
from toldstarts.work.house import House
from toldstarts.work.log import Log
from helper import ODD, a_job, some

ALL = ("all",)
ACCOUNTS = Accounts((("lab", "", 1),))
DOORS = Doors((("day", 100),))
LIMITS = Limits(ACCOUNTS)
MACHINE = Machine("a", some(core=4))
YARD = Yard((MACHINE,))
GROUPS = ((1, ALL, some(core=1)),)
ASK = ((GROUPS, Amounts()),)
SETTING = ((MACHINE,), Amounts(), DOORS, LIMITS, Weights(), 2, False, 100, ())

EVERY = ODD + (GROUPS, ASK, (1, ASK, 5), (0, 0, ((0,),)), SETTING, ("come", a_job()), ("wait", 1), ACCOUNTS, DOORS, LIMITS, YARD,
               Weights(), Row(7, (1, 2)), Board(YARD), Lineup(YARD, ((1, ASK, 5),)), House(*SETTING), Log(SETTING), Desk(Log(SETTING)))


def all_but(*classes):
    """All values that are no objects of some classes; True and False are no integers."""
    return [value for value in EVERY if not isinstance(value, classes) or isinstance(value, bool) and bool not in classes]


def no_integers(low, high):
    """All values that are no integers from one to another, and the next ones beyond them."""
    found = [value for value in EVERY if isinstance(value, bool) or not isinstance(value, int) or not low <= value <= high]
    return found + [low - 1, high + 1, str(low), (low,)]


NO_TICKS = no_integers(0, 1000000)

# What is no ask, and what has not the form of a place for an ask of two of two machines.
CORES = some(core=2)
WANT = (((2, ALL, CORES),), Amounts())
NO_ASKS = [value for value in EVERY if value != ASK] + [
    (WANT,) * 5, [WANT], (WANT, None), (WANT + (1,),), (WANT[:1],), (list(WANT),), ((WANT[0], None),), (((), Amounts()),), ((((0, ALL, CORES),), Amounts()),),
    ((((True, ALL, CORES),), Amounts()),), ((((1, "all", CORES),), Amounts()),), ((((1, ALL, CORES),) * 7, Amounts()),), ((((41, ALL, CORES),), Amounts()),)]
NO_PLACES = [value for value in EVERY if value != (0, 0, ((0, 1),))] + [
    (0, 0, ((0, 1),), 1), (0, 0), [0, 0, ((0, 1),)], (-1, 0, ((0, 1),)), (10 ** 9 + 1, 0, ((0, 1),)), (False, 0, ((0, 1),)), (0, False, ((0, 1),)),
    (0, 1, ((0, 1),)), (0, -1, ((0, 1),)), (0, 0, ((1, 0),)), (0, 0, ((0, 0),)), (0, 0, ((0,),)), (0, 0, ((0, 2),)), (0, 0, ((-1, 0),)), (0, 0, ((0, True),)),
    (0, 0, ((0, 1), ())), (0, 0, ()), (0, 0, [(0, 1)]), (0, 0, ([0, 1],)), (0, 0, (0, 1)), (None, 0, ((0, 1),)), ("0", 0, ((0, 1),)), (0, 0, ((0, 10 ** 70),))]
