"""Divisions in whole seats: whether numbers of seats are one, and which one is best.

The best one is found by trying the seats of all journeys but the one with the greatest most,
which is then given all that fit. Whatever the others get, that is best: no fare is below 0, and
of divisions that earn the same the one with more seats comes first. To leave that journey out
keeps the tries far fewer than all the choices there are.
"""


def is_division(seats, capacities, demands, ways):
    spare = capacities
    for given, way in zip(seats, ways):
        spare = spare_behind(spare, given, way)
    wanted = all([given <= demand for given, demand in zip(seats, demands)])
    return wanted and all([left >= 0 for left in spare])


def spare_behind(spare, given, way):
    """What each leg has to spare when a journey on this way is given its seats."""
    return [left - given if leg in way else left for leg, left in enumerate(spare, start=1)]


def sum_earned(seats, fares):
    return sum([given * fare for given, fare in zip(seats, fares)])


def most_seats(demand, way, spare):
    """The most that a journey can take of what the legs have to spare."""
    return min([demand] + [spare[leg - 1] for leg in way])


def journey_mosts(capacities, demands, ways):
    return [most_seats(demand, way, capacities) for demand, way in zip(demands, ways)]


def choices(mosts):
    """In how many ways each journey can be given seats from 0 to its most."""
    product = 1
    for most in mosts:
        product = product * (most + 1)
    return product


def best_whole_division(capacities, fares, demands, ways):
    """What is earned, then each journey's seats."""
    if not ways:
        return [0]
    mosts = journey_mosts(capacities, demands, ways)
    filled = mosts.index(max(mosts))
    best = []
    for seats, spare in tries(capacities, demands, ways, filled):
        rest = most_seats(demands[filled], ways[filled], spare)
        division = seats[:filled] + [rest] + seats[filled + 1:]
        best = max(best, [sum_earned(division, fares)] + division)
    return best


def tries(capacities, demands, ways, filled):
    """Each division that gives the journey to be filled none, with what the legs then have to spare."""
    found = [([], capacities)]
    for journey, way in enumerate(ways):
        longer = []
        for seats, spare in found:
            most = 0 if journey == filled else most_seats(demands[journey], way, spare)
            for given in range(most + 1):
                longer.append((seats + [given], spare_behind(spare, given, way)))
        found = longer
    return found
