"""What the tests share: calls made into a list and back, and a slow second way to the answers."""

from fractions import Fraction
from itertools import combinations, product

from seatnetwork.house import answers

BEST = (5,)
BIDS = (6,)
WHOLE = (9,)
LINE = (11,)
CLEAR = (12,)
SHOWN = (13,)


def leg(capacity):
    return (0, capacity)


def journey(fare, demand, legs):
    return (1, fare, demand, len(legs)) + tuple(legs)


def cap(number, capacity):
    return (2, number, capacity)


def demand(number, wanted):
    return (3, number, wanted)


def fare(number, paid):
    return (4, number, paid)


def accept(number):
    return (7, number)


def gain(number):
    return (8, number)


def feasible(seats):
    return (10, len(seats)) + tuple(seats)


def asked(calls):
    """The answers, a list for each call."""
    flat = answers([number for call in calls for number in call])
    told = []
    start = 0
    while start < len(flat):
        end = start + 1 + flat[start]
        told.append(flat[start + 1:end])
        start = end
    return told


def last(calls):
    return asked(calls)[-1]


def pairs(fractions):
    return [number for one in fractions for number in (one.numerator, one.denominator)]


def house_calls(capacities, journeys):
    return [leg(one) for one in capacities] + [journey(*one) for one in journeys]


def point_of(rows, amounts):
    """The one point at which all rows meet their amounts, or None."""
    size = len(rows)
    lines = [[Fraction(one) for one in row] + [Fraction(amount)] for row, amount in zip(rows, amounts)]
    for k in range(size):
        found = [i for i in range(k, size) if lines[i][k] != 0]
        if not found:
            return None
        lines[k], lines[found[0]] = lines[found[0]], lines[k]
        head = lines[k][k]
        lines[k] = [one / head for one in lines[k]]
        for i in range(size):
            if i != k and lines[i][k] != 0:
                factor = lines[i][k]
                lines[i] = [one - factor * its for one, its in zip(lines[i], lines[k])]
    return [line[-1] for line in lines]


def corners(planes, size):
    for chosen in combinations(planes, size):
        point = point_of([row for row, amount in chosen], [amount for row, amount in chosen])
        if point is not None:
            yield point


def unit(size, place):
    return [1 if k == place else 0 for k in range(size)]


def is_division(seats, capacities, journeys):
    for given, (paid, wanted, legs) in zip(seats, journeys):
        if not 0 <= given <= wanted:
            return False
    for number, capacity in enumerate(capacities, 1):
        if sum(given for given, one in zip(seats, journeys) if number in one[2]) > capacity:
            return False
    return True


def slow_best(capacities, journeys):
    """Every corner of the divisions is tried; the best division is one of them."""
    size = len(journeys)
    planes = []
    for number, (paid, wanted, legs) in enumerate(journeys):
        planes.append((unit(size, number), 0))
        if wanted > 0:
            planes.append((unit(size, number), wanted))
    for number, capacity in enumerate(capacities, 1):
        planes.append(([1 if number in one[2] else 0 for one in journeys], capacity))
    found = []
    for seats in corners(planes, size):
        if is_division(seats, capacities, journeys):
            found.append([sum((given * one[0] for given, one in zip(seats, journeys)), Fraction(0))] + seats)
    return [0] + pairs(max(found))


def cost_of(prices, capacities, journeys):
    cost = sum((price * capacity for price, capacity in zip(prices, capacities)), Fraction(0))
    for paid, wanted, legs in journeys:
        cost += wanted * max(0, paid - sum(prices[number - 1] for number in legs))
    return cost


def slow_bids(capacities, journeys):
    """Every point is tried at which prices are 0 or asks meet fares; the bid prices are one of them."""
    size = len(capacities)
    planes = [(unit(size, number), 0) for number in range(size)]
    for paid, wanted, legs in journeys:
        planes.append(([1 if number in legs else 0 for number in range(1, size + 1)], paid))
    found = []
    for prices in corners(planes, size):
        if all(price >= 0 for price in prices):
            found.append([cost_of(prices, capacities, journeys)] + prices)
    return [0] + pairs(min(found)[1:])


def slow_accept(capacities, journeys, number):
    told = slow_bids(capacities, journeys)
    prices = [Fraction(above, below) for above, below in zip(told[1::2], told[2::2])]
    paid, wanted, legs = journeys[number - 1]
    return [0, int(paid >= sum(prices[one - 1] for one in legs))]


def slow_gain(capacities, journeys, number):
    raised = [capacity + (one == number) for one, capacity in enumerate(capacities, 1)]
    more, now = slow_best(raised, journeys), slow_best(capacities, journeys)
    return [0] + pairs([Fraction(more[1], more[2]) - Fraction(now[1], now[2])])


def slow_whole(capacities, journeys):
    """Every choice of seats is tried."""
    ranges = [range(min([wanted] + [capacities[one - 1] for one in legs]) + 1) for paid, wanted, legs in journeys]
    count = 1
    for one in ranges:
        count *= len(one)
    if count > 20000:
        return [-8]
    found = [seats for seats in product(*ranges) if is_division(seats, capacities, journeys)]
    return [0] + list(max((earned(seats, journeys),) + seats for seats in found))


def earned(seats, journeys):
    return sum(given * one[0] for given, one in zip(seats, journeys))


def slow_line(journeys):
    """Every stretch of legs is tried."""
    stretches = [set(range(start, end)) for start in range(1, 6) for end in range(start + 1, 7)]
    return [0, int(all(set(legs) in stretches for paid, wanted, legs in journeys))]


class SlowHouse:
    """A second house, that answers each call in the slow way."""

    def __init__(self):
        self.capacities = []
        self.journeys = []

    def answer(self, call):
        place, given = call[0], list(call[1:])
        if place in (1, 10):
            given = given[:2 if place == 1 else 0] + [given[3 if place == 1 else 1:]]
        if not self.of_range(place, given):
            return [-2]
        if place in (2, 8) and given[0] > len(self.capacities):
            return [-7]
        if place in (3, 4, 7) and given[0] > len(self.journeys):
            return [-3]
        return self.told(place, given) if place > 4 else self.changed(place, given)

    def of_range(self, place, given):
        number, seats, paid = range(1, 6), range(1001), range(1000001)
        told = {0: [seats], 1: [paid, seats], 2: [number, seats], 3: [number, seats], 4: [number, paid],
                7: [number], 8: [number]}.get(place, [])
        if not all(one in bounds for one, bounds in zip(given, told)):
            return False
        if place == 1:
            return len(given[2]) in number and all(one in number for one in given[2])
        return place != 10 or len(given[0]) < 6 and all(one in seats for one in given[0])

    def changed(self, place, given):
        if place == 0 and len(self.capacities) == 5:
            return [-6]
        if place == 1 and max(given[2]) > len(self.capacities):
            return [-7]
        if place == 1 and len(given[2]) > len(set(given[2])):
            return [-9]
        if place == 1 and len(self.journeys) == 5:
            return [-6]
        if place == 0:
            self.capacities.append(given[0])
            return [0, len(self.capacities)]
        if place == 1:
            self.journeys.append(tuple(given))
            return [0, len(self.journeys)]
        if place == 2:
            self.capacities[given[0] - 1] = given[1]
            return [0]
        paid, wanted, legs = self.journeys[given[0] - 1]
        self.journeys[given[0] - 1] = (paid, given[1], legs) if place == 3 else (given[1], wanted, legs)
        return [0]

    def told(self, place, given):
        if place in (5, 6, 7, 8, 9):
            slow = {5: slow_best, 6: slow_bids, 7: slow_accept, 8: slow_gain, 9: slow_whole}[place]
            return slow(self.capacities, self.journeys, *given)
        if place == 10 and len(given[0]) != len(self.journeys):
            return [-10]
        if place == 10:
            return [0, int(is_division(given[0], self.capacities, self.journeys)), earned(given[0], self.journeys)]
        if place == 11:
            return slow_line(self.journeys)
        if place == 12:
            self.__init__()
            return [0]
        return [0] + shown(self.capacities, self.journeys)


def shown(capacities, journeys):
    told = [len(capacities), *capacities]
    for paid, wanted, legs in journeys:
        told += [paid, wanted, len(legs), *legs]
    return told


class Sequence:
    """Numbers that look mixed but are the same at every run."""

    def __init__(self, seed):
        self.state = seed

    def below(self, bound):
        self.state = (self.state * 6364136223846793005 + 1442695040888963407) % 2 ** 64
        return (self.state >> 33) % bound

    def choice(self, values):
        return values[self.below(len(values))]

    def some(self, values, count):
        rest = list(values)
        return [rest.pop(self.below(len(rest))) for k in range(count)]


def mixed_house(sequence, most, capacities, fares, demands):
    """Capacities and journeys, with legs and journeys up to the most told."""
    legs = 1 + sequence.below(most)
    lengths = range(1, legs + 1)
    return house_of(sequence, legs, 1 + sequence.below(most), lengths, capacities, fares, demands)


def meshed_house(sequence, most, capacities, fares, demands):
    """A full house of journeys over two legs or three: here fractions that aren't whole are often best."""
    return house_of(sequence, most, most, (2, 2, 2, 3), capacities, fares, demands)


def house_of(sequence, legs, count, lengths, capacities, fares, demands):
    seats = [sequence.choice(capacities) for k in range(legs)]
    journeys = []
    for k in range(count):
        way = sequence.some(range(1, legs + 1), sequence.choice(lengths))
        journeys.append((sequence.choice(fares), sequence.choice(demands), way))
    return seats, journeys
