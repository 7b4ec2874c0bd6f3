"""Roads that are heard of tips, and the rows of growths of a stock that fit them."""

from tipwoods.basics import MOST_BRANCHES, MOST_DEPTH, counts_of, is_letter, is_number
from tipwoods.bushes import check_bush, is_bush
from tipwoods.errors import InvalidGrowths, InvalidHeard, InvalidStock, TooMany

MOST_IN_STOCK = 6
MOST_STOCK_PARTS = 40
MOST_HEARDS = 6
MOST_ROWS = 1000
# A row that fits has at most 60 growths, so that these bits have room for each length, and one to spare.
LENGTH_BITS = 64
LENGTHS = (1 << 64) - 1


def _is_step(value):
    """Return whether any value is a step of a heard road."""
    if not isinstance(value, tuple) or len(value) != 2:
        return False
    return is_letter(value[0]) and is_number(value[1], 0, MOST_BRANCHES - 1)


def is_heard(value):
    """Return whether any value is a heard road."""
    if not isinstance(value, tuple) or len(value) > MOST_DEPTH:
        return False
    return all([_is_step(step) for step in value])


def _is_stock_growth(value):
    """Return whether any value is a growth that may be in a stock."""
    if not is_bush(value) or not value:
        return False
    knots, tips, _, _ = counts_of(value)
    return knots + tips <= MOST_STOCK_PARTS


def is_stock(value):
    """Return whether any value is a stock."""
    if not isinstance(value, tuple) or not 1 <= len(value) <= MOST_IN_STOCK:
        return False
    return all([_is_stock_growth(growth) for growth in value])


def check_heard(value):
    """Raise InvalidHeard unless a value is a heard road."""
    if not is_heard(value):
        raise InvalidHeard("no heard road")


def check_stock(value):
    """Raise InvalidStock unless a value is a stock."""
    if not is_stock(value):
        raise InvalidStock("no stock")


def _check_row(stock, value):
    """Raise InvalidGrowths unless a value is a stock row."""
    if not isinstance(value, tuple) or len(value) > MOST_DEPTH:
        raise InvalidGrowths("no tuple of at most 60 indices")
    if not all([is_number(index, 0, len(stock) - 1) for index in value]):
        raise InvalidGrowths("no index of the stock")


def _check_heards(value):
    """Raise InvalidHeard unless a value is a tuple of 1 to 6 heard roads."""
    if not isinstance(value, tuple) or not 1 <= len(value) <= MOST_HEARDS:
        raise InvalidHeard("no tuple of 1 to 6 heard roads")
    for heard in value:
        check_heard(heard)


def _heard_in(bush):
    """Return the list of the heard roads of all tips of a bush, in the order of the tips' numbers."""
    if not bush:
        return [()]
    found = []
    for index, branch in enumerate(bush[1:]):
        found.extend([((bush[0], index), *heard) for heard in _heard_in(branch)])
    return found


def heard_of(bush):
    """Return the list of the heard roads of all tips of a bush, in the order of the tips' numbers."""
    check_bush(bush)
    return _heard_in(bush)


def _gone_behind(growth, heard, gone):
    """Return how many steps are gone when those behind so many have led to a tip of a growth, -1 if they do not."""
    part = growth
    while part:
        if gone == len(heard) or heard[gone][0] != part[0] or heard[gone][1] + 1 >= len(part):
            return -1
        part = part[heard[gone][1] + 1]
        gone += 1
    return gone


def _ways_through(stock, heard):
    """Return the list, for each growth, of the list of how many steps are gone behind it, by how many ahead of it."""
    return [[_gone_behind(growth, heard, gone) for gone in range(len(heard) + 1)] for growth in stock]


def row_fits(stock, row, heard):
    """Return whether a stock row fits a heard road."""
    check_stock(stock)
    _check_row(stock, row)
    check_heard(heard)
    gone = 0
    for index in row:
        gone = _gone_behind(stock[index], heard, gone)
        if gone < 0:
            return False
    return gone == len(heard)


def first_fitting(stock, heard):
    """Return the least stock row that fits a heard road, None if there is none."""
    check_stock(stock)
    check_heard(heard)
    ways = _ways_through(stock, heard)
    # For each number of steps from which rows go on, the last one first, how long the least one is, and it.
    least = {len(heard): (0, ())}
    for gone in reversed(range(len(heard))):
        found = []
        for index, behind in enumerate(ways):
            if behind[gone] in least:
                size, row = least[behind[gone]]
                found.append((size + 1, (index, *row)))
        if found:
            least[gone] = min(found)
    if 0 not in least:
        return None
    return least[0][1]


def count_fitting(stock, heard):
    """Return how many stock rows fit a heard road."""
    check_stock(stock)
    check_heard(heard)
    ways = _ways_through(stock, heard)
    # For each number of steps, the last one first, how many rows fit those behind them.
    counts = {len(heard): 1}
    for gone in reversed(range(len(heard))):
        counts[gone] = sum([counts[behind[gone]] for behind in ways if behind[gone] >= 0])
    return counts[0]


def heard_so_far(stock, heard):
    """Return the greatest number of first steps of a heard road which, by themselves, some stock row fits."""
    check_stock(stock)
    check_heard(heard)
    ways = _ways_through(stock, heard)
    reached = {0: True}
    for gone in range(len(heard)):
        if gone in reached:
            for behind in ways:
                if behind[gone] >= 0:
                    reached[behind[gone]] = True
    return max(list(reached))


def _leaps(ways):
    """Return the list, for each growth, of the pairs of by how many steps it leads on, and of the places where it does.

    The places are one integer, in which all bits for the lengths of rows are set
    at each number of steps that are gone there.
    """
    leaps = []
    for behind in ways:
        places = {}
        for gone, further in enumerate(behind):
            if further >= 0:
                steps = further - gone
                places[steps] = places.get(steps, 0) + (LENGTHS << (LENGTH_BITS * gone))
        leaps.append(list(places.items()))
    return leaps


def _led_on(lengths, leaps):
    """Return the lengths, for all numbers of steps at once, of the rows with a growth ahead of those that are told."""
    found = 0
    for steps, places in leaps:
        # A growth more makes each length greater by one, which is the next bit.
        found |= (lengths >> (LENGTH_BITS * steps - 1)) & places
    return found


def _lengths_together(first, second, third):
    """Return the table of how many growths lead to the ends of three heard roads at once.

    It has, for each number of steps that are gone of the first one, and of the
    second one, the integer in which, for each number of those of the third one,
    the bit n is set if some n growths lead through the rest of all three.
    """
    leaps = _leaps(third)
    found = [[0] * len(second[0]) for _ in first[0]]
    found[-1][-1] = 1 << (LENGTH_BITS * (len(third[0]) - 1))
    for gone in reversed(range(len(found))):
        for other in reversed(range(len(found[gone]))):
            for index, behind in enumerate(first):
                if behind[gone] >= 0 and second[index][other] >= 0:
                    lengths = found[behind[gone]][second[index][other]]
                    found[gone][other] |= _led_on(lengths, leaps[index])
    return found


def _may_end(gone, tables):
    """Return whether, as far as each three of some heard roads tell, rows lead through the rest of all of them.

    It is told of each one how many steps are gone.
    """
    lengths = LENGTHS
    for first, second, third, table in tables:
        lengths &= table[gone[first]][gone[second]] >> (LENGTH_BITS * gone[third])
        if lengths == 0:
            return False
    return True


def _add_rows(maze, gone, row, rows, dead):
    """Add to a list all rows that begin with a row, behind which so many steps are gone of each heard road.

    The maze has the list, for each growth, of its ways through all heard roads,
    the tables for each three of these, and their lengths. Where no row goes on is
    noted as dead.
    """
    ways, tables, ends = maze
    if gone == ends:
        rows.append(row)
        if len(rows) > MOST_ROWS:
            raise TooMany(MOST_ROWS)
        return
    many = len(rows)
    if _may_end(gone, tables):
        for index, behind in enumerate(ways):
            further = tuple([way[steps] for way, steps in zip(behind, gone)])
            if -1 not in further and further not in dead:
                _add_rows(maze, further, (*row, index), rows, dead)
    if len(rows) == many:
        dead[gone] = True


def _maze_of(stock, heards):
    """Return the maze of some heard roads, as _add_rows asks for it."""
    through = [_ways_through(stock, heard) for heard in heards]
    tables = []
    for third in range(len(heards)):
        for second in range(third):
            for first in range(second):
                table = _lengths_together(through[first], through[second], through[third])
                tables.append((first, second, third, table))
    ways = [[behind[index] for behind in through] for index in range(len(stock))]
    return ways, tables, tuple([len(heard) for heard in heards])


def rows_fitting(stock, heards):
    """Return the ascending list of all stock rows that fit each of some heard roads."""
    check_stock(stock)
    _check_heards(heards)
    unlike = sorted(set(heards))
    # Fewer than three are told as three, some of them twice.
    while len(unlike) < 3:
        unlike.append(unlike[0])
    rows = []
    _add_rows(_maze_of(stock, unlike), (0,) * len(unlike), (), rows, {})
    return rows
