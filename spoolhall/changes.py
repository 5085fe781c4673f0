"""Changes of paper: how many a list of kinds has, and rows of jobs mixed with the fewest."""

from spoolhall.errors import TooMuch

JOBS_MOST = 8
JOBS = "jobs"


def changes_of(kinds, loaded):
    """How often a kind comes that is not the one ahead of it, the loaded one for the first."""
    former = [loaded] + kinds
    return sum([change(first, second) for first, second in zip(former, kinds)])


def change(first, second):
    """One where the second kind is not the first, else none."""
    return 0 if first == second else 1


def fewest(rows, loaded):
    """An order of the rows' jobs with the fewest changes, how many these are, and each state's price."""
    if sum([len(row) for row in rows]) > JOBS_MOST:
        raise TooMuch(JOBS)
    first = (tuple([0] * len(rows)), loaded)
    prices = priced(reached(first, rows), rows)
    told = [(state[0], state[1], price) for state, price in prices.items()]
    return (best_order(first, rows, prices), prices[first], told)


def moves(state, rows):
    """What can be done next: (row, the state behind it) for each row that has a job left."""
    done = state[0]
    told = []
    for place, row in enumerate(rows):
        if done[place] < len(row):
            further = done[:place] + (done[place] + 1,) + done[place + 1:]
            told.append((place, (further, row[done[place]])))
    return told


def reached(first, rows):
    """All states that can be come to, each ahead of those behind which it comes."""
    told = []
    layer = [first]
    while layer:
        told.extend(layer)
        layer = behind(layer, rows)
    return told


def behind(layer, rows):
    """The states behind those of a layer, each once."""
    found = {}
    for state in layer:
        for place, further in moves(state, rows):
            found[further] = True
    return list(found)


def priced(states, rows):
    """A dict from states to prices, of states that stand ahead of those that come behind them."""
    prices = {}
    for state in reversed(states):
        ways = [dearness(state, move, prices) for move in moves(state, rows)]
        prices[state] = min(ways, default=0)
    return prices


def dearness(state, move, prices):
    """The changes of a move together with the price of the state behind it."""
    further = move[1]
    return change(state[1], further[1]) + prices[further]


def best_order(first, rows, prices):
    """The rows' places, one for each job, along moves that are none dearer than they must be."""
    told = []
    state = first
    ways = moves(state, rows)
    while ways:
        best = min([(dearness(state, move, prices), move) for move in ways])[1]
        told.append(best[0])
        state = best[1]
        ways = moves(state, rows)
    return told
