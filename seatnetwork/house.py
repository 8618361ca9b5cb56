"""The house of legs and journeys, and what is answered to calls on it."""

from seatnetwork.table import best_division, bid_prices
from seatnetwork.whole import best_whole_division, choices, is_division, journey_mosts, sum_earned


OUT_OF_RANGE = -2
NO_SUCH_JOURNEY = -3
NO_ROOM = -6
NO_SUCH_LEG = -7
TOO_MANY_CHOICES = -8
LEG_TWICE = -9
NOT_ONE_EACH = -10

MOST_LEGS = 5
MOST_JOURNEYS = 5
MOST_CHOICES = 20000

# for each place the least and the most of each argument
ARGUMENTS = {
    0: ((0, 1000),),
    1: ((0, 1000000), (0, 1000)),
    2: ((1, 5), (0, 1000)),
    3: ((1, 5), (0, 1000)),
    4: ((1, 5), (0, 1000000)),
    5: (),
    6: (),
    7: ((1, 5),),
    8: ((1, 5),),
    9: (),
    10: (),
    11: (),
    12: (),
    13: (),
}

# for each place with a row the least and the most of its length, then of its numbers
ROWS = {
    1: ((1, 5), (1, 5)),
    10: ((0, 5), (0, 1000)),
}


class House:
    def __init__(self):
        self.capacities = []
        self.fares = []
        self.demands = []
        self.ways = []


class Call:
    def __init__(self, place, arguments, row, end):
        self.place = place
        self.arguments = arguments
        self.row = row
        self.end = end


def answers(calls):
    """For each call on a new house how many numbers are answered, then these."""
    house = House()
    told = []
    start = 0
    while start < len(calls):
        call = read_call(calls, start)
        answer = answer_to(house, call)
        told.append(len(answer))
        told.extend(answer)
        start = call.end
    return told


def read_call(calls, start):
    place = calls[start]
    behind = start + 1 + len(ARGUMENTS[place])
    arguments = calls[start + 1:behind]
    if place not in ROWS:
        return Call(place, arguments, [], behind)
    end = behind + 1 + calls[behind]
    return Call(place, arguments, calls[behind + 1:end], end)


def answer_to(house, call):
    # what is out of range is refused ahead of all else, so no act has to look for it
    if not in_ranges(call):
        return [OUT_OF_RANGE]
    act = ACTS[call.place]
    return act(house, call)


def in_ranges(call):
    for argument, bounds in zip(call.arguments, ARGUMENTS[call.place]):
        if not within(argument, bounds):
            return False
    return call.place not in ROWS or row_in_ranges(call.row, ROWS[call.place])


def row_in_ranges(row, ranges):
    lengths = ranges[0]
    numbers = ranges[1]
    return within(len(row), lengths) and all([within(number, numbers) for number in row])


def within(number, bounds):
    return bounds[0] <= number <= bounds[1]


def add_leg(house, call):
    if len(house.capacities) == MOST_LEGS:
        return [NO_ROOM]
    house.capacities.append(call.arguments[0])
    return [0, len(house.capacities)]


def add_journey(house, call):
    way = call.row
    if not all([has_leg(house, leg) for leg in way]):
        return [NO_SUCH_LEG]
    if len(set(way)) < len(way):
        return [LEG_TWICE]
    if len(house.ways) == MOST_JOURNEYS:
        return [NO_ROOM]
    house.fares.append(call.arguments[0])
    house.demands.append(call.arguments[1])
    house.ways.append(way)
    return [0, len(house.ways)]


def has_leg(house, leg):
    return leg <= len(house.capacities)


def has_journey(house, journey):
    return journey <= len(house.ways)


def change_cap(house, call):
    leg = call.arguments[0]
    if not has_leg(house, leg):
        return [NO_SUCH_LEG]
    house.capacities[leg - 1] = call.arguments[1]
    return [0]


def change_demand(house, call):
    journey = call.arguments[0]
    if not has_journey(house, journey):
        return [NO_SUCH_JOURNEY]
    house.demands[journey - 1] = call.arguments[1]
    return [0]


def change_fare(house, call):
    journey = call.arguments[0]
    if not has_journey(house, journey):
        return [NO_SUCH_JOURNEY]
    house.fares[journey - 1] = call.arguments[1]
    return [0]


def tell_best(house, call):
    return [0] + fractions_told(best_division(house.capacities, house.fares, house.demands, house.ways))


def tell_bids(house, call):
    return [0] + fractions_told(bid_prices(house.capacities, house.fares, house.demands, house.ways))


def tell_accept(house, call):
    journey = call.arguments[0]
    if not has_journey(house, journey):
        return [NO_SUCH_JOURNEY]
    prices = bid_prices(house.capacities, house.fares, house.demands, house.ways)
    # all prices stand over the same number, and so does their sum
    ask_above = sum([prices[leg - 1][0] for leg in house.ways[journey - 1]])
    ask_below = prices[0][1]
    return [0, one_if(house.fares[journey - 1] * ask_below >= ask_above)]


def tell_gain(house, call):
    leg = call.arguments[0]
    if not has_leg(house, leg):
        return [NO_SUCH_LEG]
    raised = list(house.capacities)
    raised[leg - 1] += 1
    return [0] + fractions_told([difference(best_earned(house, raised), best_earned(house, house.capacities))])


def best_earned(house, capacities):
    return best_division(capacities, house.fares, house.demands, house.ways)[0]


def difference(pair, other):
    return (pair[0] * other[1] - other[0] * pair[1], pair[1] * other[1])


def tell_whole(house, call):
    if choices(journey_mosts(house.capacities, house.demands, house.ways)) > MOST_CHOICES:
        return [TOO_MANY_CHOICES]
    return [0] + best_whole_division(house.capacities, house.fares, house.demands, house.ways)


def tell_feasible(house, call):
    seats = call.row
    if len(seats) != len(house.ways):
        return [NOT_ONE_EACH]
    feasible = is_division(seats, house.capacities, house.demands, house.ways)
    return [0, one_if(feasible), sum_earned(seats, house.fares)]


def tell_line(house, call):
    return [0, one_if(all([is_without_gap(way) for way in house.ways]))]


def is_without_gap(way):
    # no leg is named twice, so that as many legs as from the least to the greatest are all of these
    return max(way) - min(way) + 1 == len(way)


def clear_house(house, call):
    house.capacities = []
    house.fares = []
    house.demands = []
    house.ways = []
    return [0]


def tell_shown(house, call):
    told = [0, len(house.capacities)] + house.capacities
    for fare, demand, way in zip(house.fares, house.demands, house.ways):
        told.extend([fare, demand, len(way)] + way)
    return told


def one_if(holds):
    return 1 if holds else 0


def fractions_told(pairs):
    told = []
    for above, below in pairs:
        common = common_divisor(above, below)
        told.extend([above // common, below // common])
    return told


def common_divisor(above, below):
    while below > 0:
        rest = above % below
        above = below
        below = rest
    return above


ACTS = {
    0: add_leg,
    1: add_journey,
    2: change_cap,
    3: change_demand,
    4: change_fare,
    5: tell_best,
    6: tell_bids,
    7: tell_accept,
    8: tell_gain,
    9: tell_whole,
    10: tell_feasible,
    11: tell_line,
    12: clear_house,
    13: tell_shown,
}
