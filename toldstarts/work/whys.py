"""Why a job does not run."""

from toldstarts.plan.bars import bars_from
from toldstarts.plan.ground import check_looked
from toldstarts.plan.limits import least_broken
from toldstarts.plan.places import yard_of
from toldstarts.wait.formulas import jobs_named, lost_tree
from toldstarts.wait.stuck import stuck_set


def reasons_of(inside, number):
    """The pairs (word, paper) of the reasons that apply to a job, in their order."""
    if inside.stands(number) in ("runs", "over"):
        return ()
    found = []
    after = inside.comers[number].after
    if number in inside.held_numbers:
        found.append(("held", None))
    if after is not None and not inside.is_true_now(after):
        found.append(("after", lost_tree(after, {one: inside.state_of(one) for one in jobs_named(after)})))
    stuck = _stuck_with(inside, number)
    if stuck:
        found.append(("stuck", stuck))
    found.extend(_reasons_of_places(inside, number))
    if inside.is_ready(number):
        row = inside.row()
        found.append(("row", tuple(inside.table.told_keys) + row[:row.index(number)]))
    return tuple(found)


def _stuck_with(inside, number):
    """The greatest stuck set of the jobs that have not begun, if a job is in it, or nothing."""
    wishes = {one: inside.comers[one].after for one in sorted(inside.bids) if inside.states[one] == "waiting"}
    named = [one for after in wishes.values() if after is not None for one in jobs_named(after)]
    known = {one: inside.state_of(one) for one in named if one not in wishes}
    stuck = stuck_set(wishes, known)
    return stuck if number in stuck else ()


def _reasons_of_places(inside, number):
    """The reasons that lie in limits, and in machines and the house."""
    table, rules, job = inside.table, inside.rules, inside.comers[number]
    ground, now, found = table.ground, table.clock, []
    if number in ground.stays:
        ground = ground.without_stay(number)
    sets = least_broken(rules.house_limits, rules.house_doors, yard_of(ground).house_room(), job, now)
    if all([some for some, _ in sets]):
        found.append(("limits", sets))
    check_looked(ground, now)
    bars = bars_from(ground, inside.bids[number].asked, job.limit, now)
    if bars:
        end = bars[-1][1]
        start = None if end >= ground.horizon(now) else end
        found.append(("place", (start, bars)))
    return found
