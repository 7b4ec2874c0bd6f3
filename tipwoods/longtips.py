"""The tips of the bush of a long row, by their numbers and by the runs of their roads."""

from tipwoods.basics import MOST_BRANCHES, MOST_DIGITS, is_number, least_too_long
from tipwoods.errors import InvalidNumber, InvalidRuns, TooMany
from tipwoods.longrows import check_long, pairs_with_years
from tipwoods.roads import roads_to_tips


def _digits_of(rest, base, years):
    """Return the list of the last digits of a number, the last one first, at most so many, and the rest ahead of them.

    Digits that are 0, with nothing ahead of them but such ones, are left out.
    """
    digits = []
    while rest > 0 and len(digits) < years:
        rest, digit = divmod(rest, base)
        digits.append(digit)
    return digits, rest


def _runs_in_pair(growth, years, rest):
    """Return the list of the runs through the years of a pair, and what is left of a number for the years ahead."""
    roads = roads_to_tips(growth)
    if len(roads) == 1:
        return [(roads[0], years)], rest
    digits, rest = _digits_of(rest, len(roads), years)
    runs = []
    if len(digits) < years:
        runs.append((roads[0], years - len(digits)))
    for digit in reversed(digits):
        times = 1
        if runs and runs[-1][0] == roads[digit]:
            times += runs.pop()[1]
        runs.append((roads[digit], times))
    return runs, rest


def runs_of_tip(long, number):
    """Return the runs of the road to the tip with a number."""
    check_long(long)
    if isinstance(number, bool) or not isinstance(number, int) or number < 0:
        raise InvalidNumber("no number of a tip")
    rest = number
    runs = []
    # The number has a digit for each year, that of the last year being the last one.
    for growth, years in reversed(pairs_with_years(long)):
        ahead, rest = _runs_in_pair(growth, years, rest)
        runs = ahead + runs
    if rest > 0:
        raise InvalidNumber("no number of a tip")
    return tuple(runs)


def _is_run(value):
    """Return whether any value is a pair of a tuple of indices and of some times."""
    if not isinstance(value, tuple) or len(value) != 2:
        return False
    road, times = value
    if not isinstance(road, tuple) or not all([is_number(index, 0, MOST_BRANCHES - 1) for index in road]):
        return False
    return not isinstance(times, bool) and isinstance(times, int) and times > 0


def _steps_of(growth, years, runs):
    """Return the list of triples (tips, tip, times) for the first runs, which lead through the years of a pair.

    The triple tells how many tips the growth has, the number of the one to which
    the run leads, and its times; InvalidRuns is raised if the runs do not lead so.
    """
    roads = roads_to_tips(growth)
    tips = {road: tip for tip, road in enumerate(roads)}
    steps = []
    for road, times in runs:
        if years == 0:
            break
        if road not in tips or times > years or steps and steps[-1][1] == tips[road]:
            raise InvalidRuns("no runs of a road to a tip")
        steps.append((len(roads), tips[road], times))
        years -= times
    if years > 0:
        raise InvalidRuns("the runs end too early")
    return steps


def _all_steps(long, runs):
    """Return the list of the triples of _steps_of for all runs of the road to a tip; raise InvalidRuns for others."""
    if not isinstance(runs, tuple) or not all([_is_run(run) for run in runs]):
        raise InvalidRuns("no runs")
    steps = []
    for growth, years in pairs_with_years(long):
        steps.extend(_steps_of(growth, years, runs[len(steps):]))
    if len(steps) < len(runs):
        raise InvalidRuns("there are runs behind the last year")
    return steps


def tip_of_runs(long, runs):
    """Return the number of the tip the road to which has these runs."""
    check_long(long)
    limit = least_too_long()
    number = 0
    for tips, tip, times in _all_steps(long, runs):
        # Where the number stays as it is, the years can be ever so many.
        while times > 0 and tips > 1 and number + tip > 0:
            times -= 1
            number = number * tips + tip
            if number >= limit:
                raise TooMany(MOST_DIGITS)
    return number


def _runs_by(long, choices):
    """Return the runs that lead, in each pair that has years, by the road that is chosen for it."""
    times = [years for _, years in pairs_with_years(long)]
    return tuple(list(zip(choices, times)))


def near_runs(long):
    """Return the runs of the road to the tip with the least number among those at the near depth."""
    check_long(long)
    # The first one of several with the fewest indices is that with the least number.
    return _runs_by(long, [min(roads_to_tips(growth), key=len) for growth, _ in pairs_with_years(long)])


def far_runs(long):
    """Return the runs of the road to the tip with the least number among those at the height."""
    check_long(long)
    return _runs_by(long, [max(roads_to_tips(growth), key=len) for growth, _ in pairs_with_years(long)])
