"""The best division and the bid prices, both read from one table of whole numbers.

The table is that of the simplex method. Its columns are the journeys' seats, then what each
limit has to spare (a limit for each leg, then one for each journey's demand), then the amount.
Every number in it stands for itself over `below`, so that no fraction is ever kept.

Two orders are decided along the way:
- Among divisions that earn most: what is earned is the first goal, and the seats of journey 1,
  journey 2, .. are goals behind it. Goals are compared as lists, so a later one only breaks ties.
- Among prices that cost least: it is as if leg 1 had a trifle of capacity more, leg 2 a trifle of
  a trifle, and so on; the cost of prices then grows with leg 1's price first. The trifles' parts
  of an amount are the spare columns of the legs, and stand behind the amount in comparisons.
"""


class Table:
    def __init__(self, capacities, fares, demands, ways):
        self.legs = len(capacities)
        self.journeys = len(fares)
        self.limits = limit_rows(capacities, demands, ways)
        self.goals = goal_rows(fares, len(fares) + len(self.limits) + 1)
        # the column whose value each limit's row tells: at first what it has to spare
        self.holders = [self.journeys + number for number in range(len(self.limits))]
        self.below = 1


def limit_rows(capacities, demands, ways):
    journeys = len(demands)
    uses = [leg_use(leg, ways) for leg in range(1, len(capacities) + 1)]
    uses.extend([single(journeys, journey, 1) for journey in range(journeys)])
    amounts = capacities + demands
    rows = []
    for number, use in enumerate(uses):
        rows.append(use + single(len(uses), number, 1) + [amounts[number]])
    return rows


def leg_use(leg, ways):
    return [1 if leg in way else 0 for way in ways]


def goal_rows(fares, width):
    rows = [[-fare for fare in fares] + [0] * (width - len(fares))]
    for journey in range(len(fares)):
        rows.append(single(width, journey, -1))
    return rows


def single(width, place, number):
    row = [0] * width
    row[place] = number
    return row


def solved(capacities, fares, demands, ways):
    """The table whose amounts are the best division and whose first goal tells the bid prices."""
    table = Table(capacities, fares, demands, ways)
    column = entering(table)
    while column is not None:
        turn(table, leaving(table, column), column)
        column = entering(table)
    return table


def entering(table):
    """The first column that betters the goals, or None; taking the first keeps from circling."""
    nothing = [0] * len(table.goals)
    for column in range(table.journeys + len(table.limits)):
        if [goal[column] for goal in table.goals] < nothing:
            return column
    return None


def leaving(table, column):
    """The limit that is reached first. There is always one, as each demand is a limit."""
    reached = None
    for number, limit in enumerate(table.limits):
        if limit[column] > 0 and (reached is None or reached_before(table, number, reached, column)):
            reached = number
    return reached


def reached_before(table, number, other, column):
    # amounts over steps are compared crosswise; limits reached together go by their holders,
    # which together with the choice of the entering column keeps from circling
    step = table.limits[number][column]
    other_step = table.limits[other][column]
    ahead = [part * other_step for part in amount_parts(table, number)]
    behind = [part * step for part in amount_parts(table, other)]
    return ahead + [table.holders[number]] < behind + [table.holders[other]]


def amount_parts(table, number):
    limit = table.limits[number]
    return [limit[-1]] + limit[table.journeys:table.journeys + table.legs]


def turn(table, number, column):
    """Let the column take the place of the limit's holder."""
    pivot_row = table.limits[number]
    below = table.below
    table.goals = [cleared(goal, pivot_row, column, below) for goal in table.goals]
    limits = [cleared(limit, pivot_row, column, below) for limit in table.limits]
    limits[number] = pivot_row
    table.limits = limits
    table.holders[number] = column
    table.below = pivot_row[column]


def cleared(row, pivot_row, column, below):
    # the division leaves no rest: each number of the table is a determinant of the first table's
    pivot = pivot_row[column]
    factor = row[column]
    return [(mine * pivot - factor * its) // below for mine, its in zip(row, pivot_row)]


def best_division(capacities, fares, demands, ways):
    """What is earned, then each journey's seats, each as a pair: above and below the line."""
    table = solved(capacities, fares, demands, ways)
    return [(goal[-1], table.below) for goal in table.goals]


def bid_prices(capacities, fares, demands, ways):
    """Each leg's price as a pair: above and below the line, the lower number the same for all."""
    table = solved(capacities, fares, demands, ways)
    prices = table.goals[0][table.journeys:table.journeys + table.legs]
    return [(price, table.below) for price in prices]
