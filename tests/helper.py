"""What the tests share: calls made into a list and back, and a slow second way to the answers."""

from fractions import Fraction
from itertools import combinations

from seatnetwork.house import answers

BEST = (5,)
BIDS = (6,)


def leg(capacity):
    return (0, capacity)


def journey(fare, demand, legs):
    return (1, fare, demand, len(legs)) + tuple(legs)


def cap(number, capacity):
    return (2, number, capacity)


def demand(number, wanted):
    return (3, number, wanted)


def fare(number, paid):
    return (4, number, paid)


def asked(calls):
    """The answers, a list for each call."""
    flat = answers([number for call in calls for number in call])
    told = []
    start = 0
    while start < len(flat):
        end = start + 1 + flat[start]
        told.append(flat[start + 1:end])
        start = end
    return told


def last(calls):
    return asked(calls)[-1]


def pairs(fractions):
    return [number for one in fractions for number in (one.numerator, one.denominator)]


def house_calls(capacities, journeys):
    return [leg(one) for one in capacities] + [journey(*one) for one in journeys]


def point_of(rows, amounts):
    """The one point at which all rows meet their amounts, or None."""
    size = len(rows)
    lines = [[Fraction(one) for one in row] + [Fraction(amount)] for row, amount in zip(rows, amounts)]
    for k in range(size):
        found = [i for i in range(k, size) if lines[i][k] != 0]
        if not found:
            return None
        lines[k], lines[found[0]] = lines[found[0]], lines[k]
        head = lines[k][k]
        lines[k] = [one / head for one in lines[k]]
        for i in range(size):
            if i != k and lines[i][k] != 0:
                factor = lines[i][k]
                lines[i] = [one - factor * its for one, its in zip(lines[i], lines[k])]
    return [line[-1] for line in lines]


def corners(planes, size):
    for chosen in combinations(planes, size):
        point = point_of([row for row, amount in chosen], [amount for row, amount in chosen])
        if point is not None:
            yield point


def unit(size, place):
    return [1 if k == place else 0 for k in range(size)]


def is_division(seats, capacities, journeys):
    for given, (paid, wanted, legs) in zip(seats, journeys):
        if not 0 <= given <= wanted:
            return False
    for number, capacity in enumerate(capacities, 1):
        if sum(given for given, one in zip(seats, journeys) if number in one[2]) > capacity:
            return False
    return True


def slow_best(capacities, journeys):
    """Every corner of the divisions is tried; the best division is one of them."""
    size = len(journeys)
    planes = []
    for number, (paid, wanted, legs) in enumerate(journeys):
        planes.append((unit(size, number), 0))
        if wanted > 0:
            planes.append((unit(size, number), wanted))
    for number, capacity in enumerate(capacities, 1):
        planes.append(([1 if number in one[2] else 0 for one in journeys], capacity))
    found = []
    for seats in corners(planes, size):
        if is_division(seats, capacities, journeys):
            found.append([sum((given * one[0] for given, one in zip(seats, journeys)), Fraction(0))] + seats)
    return [0] + pairs(max(found))


def cost_of(prices, capacities, journeys):
    cost = sum((price * capacity for price, capacity in zip(prices, capacities)), Fraction(0))
    for paid, wanted, legs in journeys:
        cost += wanted * max(0, paid - sum(prices[number - 1] for number in legs))
    return cost


def slow_bids(capacities, journeys):
    """Every point is tried at which prices are 0 or asks meet fares; the bid prices are one of them."""
    size = len(capacities)
    planes = [(unit(size, number), 0) for number in range(size)]
    for paid, wanted, legs in journeys:
        planes.append(([1 if number in legs else 0 for number in range(1, size + 1)], paid))
    found = []
    for prices in corners(planes, size):
        if all(price >= 0 for price in prices):
            found.append([cost_of(prices, capacities, journeys)] + prices)
    return [0] + pairs(min(found)[1:])


class Sequence:
    """Numbers that look mixed but are the same at every run."""

    def __init__(self, seed):
        self.state = seed

    def below(self, bound):
        self.state = (self.state * 6364136223846793005 + 1442695040888963407) % 2 ** 64
        return (self.state >> 33) % bound

    def choice(self, values):
        return values[self.below(len(values))]

    def some(self, values, count):
        rest = list(values)
        return [rest.pop(self.below(len(rest))) for k in range(count)]


def mixed_house(sequence, most, capacities, fares, demands):
    """Capacities and journeys, with legs and journeys up to the most told."""
    legs = 1 + sequence.below(most)
    lengths = range(1, legs + 1)
    return house_of(sequence, legs, 1 + sequence.below(most), lengths, capacities, fares, demands)


def meshed_house(sequence, most, capacities, fares, demands):
    """A full house of journeys over two legs or three: here fractions that aren't whole are often best."""
    return house_of(sequence, most, most, (2, 2, 2, 3), capacities, fares, demands)


def house_of(sequence, legs, count, lengths, capacities, fares, demands):
    seats = [sequence.choice(capacities) for k in range(legs)]
    journeys = []
    for k in range(count):
        way = sequence.some(range(1, legs + 1), sequence.choice(lengths))
        journeys.append((sequence.choice(fares), sequence.choice(demands), way))
    return seats, journeys
