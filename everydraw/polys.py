"""Polynomials: lists of terms, tuples of powers and a whole number, those with greater powers first."""

from everydraw.errors import NoBottom
from everydraw.fracs import fraction_of

PLACES = 6


def trimmed(powers):
    end = len(powers)
    while end > 0 and powers[end - 1] == 0:
        end -= 1
    return powers[:end]


def power_at(powers, k):
    return powers[k] if k < len(powers) else 0


def poly_of(terms):
    total = {}
    for powers, number in terms:
        bare = trimmed(powers)
        total[bare] = total.get(bare, 0) + number
    return [term for term in sorted(total.items(), reverse=True) if term[1] != 0]


def poly_sum(one, other):
    return poly_of(one + other)


def poly_less(one, other):
    return poly_of(one + [(powers, -number) for powers, number in other])


def greatest_powers(some):
    greatest = [0] * PLACES
    for powers, number in some:
        for k, power in enumerate(powers):
            if power > greatest[k]:
                greatest[k] = power
    return greatest


# Products add powers term by term. That is quickest where the powers are packed into one whole number, its key,
# with as many bits for each power as the greatest sum of two needs, so that none runs over into its neighbour.
def width_for(one, other):
    most = max(greatest_powers(one)) + max(greatest_powers(other))
    return most.bit_length()


# The first power stands in the highest bits, so that keys compare as the powers do.
def key_of(powers, width):
    key = 0
    for power in powers:
        key = (key << width) + power
    return key << (width * (PLACES - len(powers)))


def powers_of(key, width):
    mask = (1 << width) - 1
    return trimmed(tuple([(key >> (width * k)) & mask for k in range(PLACES - 1, -1, -1)]))


def packed(some, width):
    return [(key_of(powers, width), number) for powers, number in some]


def unpacked(total, width):
    return [(powers_of(key, width), total[key]) for key in sorted(total, reverse=True) if total[key] != 0]


def add_products(total, left, right):
    for key, number in left:
        for shift, part in right:
            whole = key + shift
            if whole in total:
                total[whole] += number * part
            else:
                total[whole] = number * part


def poly_times(one, other):
    width = width_for(one, other)
    total = {}
    add_products(total, packed(one, width), packed(other, width))
    return unpacked(total, width)


# The program's rules keep ** to written exponents.
def raised(base, power):
    worth = 1
    while power > 0:
        if power & 1:
            worth = worth * base
        base = base * base
        power = power >> 1
    return worth


# All terms are brought over one bottom, so that only their sum has to be brought to lowest terms.
def scaled_powers(some, k, fraction, most):
    scaled = {}
    for powers, number in some:
        power = power_at(powers, k)
        if power not in scaled:
            scaled[power] = raised(fraction[0], power) * raised(fraction[1], most - power)
    return scaled


def worth_at(some, place):
    greatest = greatest_powers(some)
    scaled = []
    bottom = 1
    for k in range(PLACES):
        fraction = place[k] if k < len(place) else (0, 1)
        scaled.append(scaled_powers(some, k, fraction, greatest[k]))
        bottom = bottom * raised(fraction[1], greatest[k])
    top = 0
    for powers, number in some:
        worth = number
        for k in range(PLACES):
            worth = worth * scaled[k][power_at(powers, k)]
        top = top + worth
    return fraction_of(top, bottom)


# In each free number the greatest powers of two factors add up to that of their product, so a quotient has no power
# above these. Without this bound a division that does not come out makes powers for which a key has no bits.
def room_for(one, other):
    return [whole - part for whole, part in zip(greatest_powers(one), greatest_powers(other))]


# A quotient's numbers are whole ones, so a number that does not divide ends the division as a missing power does.
def term_by(powers, number, lead, room):
    if number % lead[1] != 0:
        return None
    rest = []
    for k in range(PLACES):
        power = power_at(powers, k) - power_at(lead[0], k)
        if power < 0 or power > room[k]:
            return None
        rest.append(power)
    return (trimmed(tuple(rest)), number // lead[1])


def place_among(waiting, key):
    low = 0
    high = len(waiting)
    while low < high:
        middle = (low + high) // 2
        if waiting[middle] < key:
            low = middle + 1
        else:
            high = middle
    return low


# A key whose number comes to 0 goes on waiting: it may be met again, and is passed over when its turn comes.
def take_away(left, waiting, factor, shift, number):
    for key, part in factor:
        whole = key + shift
        if whole not in left:
            left[whole] = 0
            waiting.insert(place_among(waiting, whole), whole)
        left[whole] = left[whole] - part * number


def divided_by(one, other):
    if len(other) == 0:
        raise NoBottom("a polynomial is divided by 0")
    width = width_for(one, other)
    room = room_for(one, other)
    lead = other[0]
    behind = packed(other[1:], width)
    left = dict(packed(one, width))
    waiting = sorted(left)
    quotient = []
    while len(waiting) > 0:
        key = waiting.pop()
        if left[key] != 0:
            term = term_by(powers_of(key, width), left[key], lead, room)
            if term is None:
                return None
            quotient.append(term)
            take_away(left, waiting, behind, key_of(term[0], width), term[1])
    return quotient
