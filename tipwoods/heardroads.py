"""Roads that are heard of tips, and the rows of growths of a stock that fit them."""

from tipwoods.basics import MOST_BRANCHES, MOST_DEPTH, counts_of, is_letter, is_number
from tipwoods.bushes import check_bush, is_bush
from tipwoods.errors import InvalidGrowths, InvalidHeard, InvalidStock, TooMany

MOST_IN_STOCK = 6
MOST_STOCK_PARTS = 40
MOST_HEARDS = 6
MOST_ROWS = 1000


def _is_step(value):
    """Return whether any value is a step of a heard road."""
    if not isinstance(value, tuple) or len(value) != 2:
        return False
    return is_letter(value[0]) and is_number(value[1], 0, MOST_BRANCHES - 1)


def is_heard(value):
    """Return whether any value is a heard road."""
    if not isinstance(value, tuple) or len(value) > MOST_DEPTH:
        return False
    return all([_is_step(step) for step in value])


def _is_stock_growth(value):
    """Return whether any value is a growth that may be in a stock."""
    if not is_bush(value) or not value:
        return False
    knots, tips, _, _ = counts_of(value)
    return knots + tips <= MOST_STOCK_PARTS


def is_stock(value):
    """Return whether any value is a stock."""
    if not isinstance(value, tuple) or not 1 <= len(value) <= MOST_IN_STOCK:
        return False
    return all([_is_stock_growth(growth) for growth in value])


def check_heard(value):
    """Raise InvalidHeard unless a value is a heard road."""
    if not is_heard(value):
        raise InvalidHeard("no heard road")


def check_stock(value):
    """Raise InvalidStock unless a value is a stock."""
    if not is_stock(value):
        raise InvalidStock("no stock")


def _check_row(stock, value):
    """Raise InvalidGrowths unless a value is a stock row."""
    if not isinstance(value, tuple) or len(value) > MOST_DEPTH:
        raise InvalidGrowths("no tuple of at most 60 indices")
    if not all([is_number(index, 0, len(stock) - 1) for index in value]):
        raise InvalidGrowths("no index of the stock")


def _check_heards(value):
    """Raise InvalidHeard unless a value is a tuple of 1 to 6 heard roads."""
    if not isinstance(value, tuple) or not 1 <= len(value) <= MOST_HEARDS:
        raise InvalidHeard("no tuple of 1 to 6 heard roads")
    for heard in value:
        check_heard(heard)


def _heard_in(bush):
    """Return the list of the heard roads of all tips of a bush, in the order of the tips' numbers."""
    if not bush:
        return [()]
    found = []
    for index, branch in enumerate(bush[1:]):
        found.extend([((bush[0], index), *heard) for heard in _heard_in(branch)])
    return found


def heard_of(bush):
    """Return the list of the heard roads of all tips of a bush, in the order of the tips' numbers."""
    check_bush(bush)
    return _heard_in(bush)


def _gone_behind(growth, heard, gone):
    """Return how many steps are gone when those behind so many have led to a tip of a growth, -1 if they do not."""
    part = growth
    while part:
        if gone == len(heard) or heard[gone][0] != part[0] or heard[gone][1] + 1 >= len(part):
            return -1
        part = part[heard[gone][1] + 1]
        gone += 1
    return gone


def _ways_through(stock, heard):
    """Return the list, for each growth, of the list of how many steps are gone behind it, by how many ahead of it."""
    return [[_gone_behind(growth, heard, gone) for gone in range(len(heard) + 1)] for growth in stock]


def row_fits(stock, row, heard):
    """Return whether a stock row fits a heard road."""
    check_stock(stock)
    _check_row(stock, row)
    check_heard(heard)
    gone = 0
    for index in row:
        gone = _gone_behind(stock[index], heard, gone)
        if gone < 0:
            return False
    return gone == len(heard)


def first_fitting(stock, heard):
    """Return the least stock row that fits a heard road, None if there is none."""
    check_stock(stock)
    check_heard(heard)
    ways = _ways_through(stock, heard)
    # For each number of steps from which rows go on, the last one first, how long the least one is, and it.
    least = {len(heard): (0, ())}
    for gone in reversed(range(len(heard))):
        found = []
        for index, behind in enumerate(ways):
            if behind[gone] in least:
                size, row = least[behind[gone]]
                found.append((size + 1, (index, *row)))
        if found:
            least[gone] = min(found)
    if 0 not in least:
        return None
    return least[0][1]


def count_fitting(stock, heard):
    """Return how many stock rows fit a heard road."""
    check_stock(stock)
    check_heard(heard)
    ways = _ways_through(stock, heard)
    # For each number of steps, the last one first, how many rows fit those behind them.
    counts = {len(heard): 1}
    for gone in reversed(range(len(heard))):
        counts[gone] = sum([counts[behind[gone]] for behind in ways if behind[gone] >= 0])
    return counts[0]


def heard_so_far(stock, heard):
    """Return the greatest number of first steps of a heard road which, by themselves, some stock row fits."""
    check_stock(stock)
    check_heard(heard)
    ways = _ways_through(stock, heard)
    reached = {0: True}
    for gone in range(len(heard)):
        if gone in reached:
            for behind in ways:
                if behind[gone] >= 0:
                    reached[behind[gone]] = True
    return max(list(reached))


def _lengths_together(ways, mates):
    """Return the table of how many growths lead to the ends of two heard roads at once.

    It has, for each number of steps that are gone of the one, and of the other
    one, the integer that has the bit n if some n growths lead through the rest of both.
    """
    found = [[0] * len(mates[0]) for _ in ways[0]]
    found[-1][-1] = 1
    for gone in reversed(range(len(found))):
        for other in reversed(range(len(found[gone]))):
            for behind, mate in zip(ways, mates):
                if behind[gone] >= 0 and mate[other] >= 0:
                    found[gone][other] |= found[behind[gone]][mate[other]] << 1
    return found


def _may_end(gone, tables):
    """Return whether, as far as each two of some heard roads tell, rows lead through the rest of all of them.

    It is told of each one how many steps are gone.
    """
    lengths = -1
    for first, second, table in tables:
        lengths &= table[gone[first]][gone[second]]
        if lengths == 0:
            return False
    return True


def _add_rows(maze, gone, row, rows, dead):
    """Add to a list all rows that begin with a row, behind which so many steps are gone of each heard road.

    The maze is the list of the ways by growths, and what _may_end asks for.
    Where no row goes on is noted as dead.
    """
    ways, tables, ends = maze
    if gone == ends:
        rows.append(row)
        if len(rows) > MOST_ROWS:
            raise TooMany(MOST_ROWS)
        return
    many = len(rows)
    for index, behind in enumerate(ways):
        further = tuple([way[steps] for way, steps in zip(behind, gone)])
        if -1 not in further and further not in dead and _may_end(further, tables):
            _add_rows(maze, further, (*row, index), rows, dead)
    if len(rows) == many:
        dead[gone] = True


def rows_fitting(stock, heards):
    """Return the ascending list of all stock rows that fit each of some heard roads."""
    check_stock(stock)
    _check_heards(heards)
    unlike = sorted(set(heards))
    through = [_ways_through(stock, heard) for heard in unlike]
    tables = []
    for second, mates in enumerate(through):
        for first in range(max(second, 1)):
            tables.append((first, second, _lengths_together(through[first], mates)))
    ways = [[ways[index] for ways in through] for index in range(len(stock))]
    ends = tuple([len(heard) for heard in unlike])
    rows = []
    start = (0,) * len(unlike)
    if _may_end(start, tables):
        _add_rows((ways, tables, ends), start, (), rows, {})
    return rows
