"""What the tests share: answers worked out another way, by Python's own fractions, and made-up inputs."""

from fractions import Fraction
from math import isqrt

from momentwright.back import back


def py(one):
    """Python's own fraction of a fraction of the program."""
    return Fraction(one[0], one[1])


def our(number):
    """The fraction of the program of Python's own, or of a whole number."""
    number = Fraction(number)
    return (number.numerator, number.denominator)


def poly(*numbers):
    """The list of fractions of some numbers: whole ones, Python's own fractions, or texts like 1/2."""
    return [our(number) for number in numbers]


def cut(numbers):
    """Python's own numbers without the noughts behind, as a polynomial of the program."""
    numbers = list(numbers)
    while numbers and numbers[-1] == 0:
        numbers.pop()
    return [our(number) for number in numbers]


def padded(f, many):
    """Python's own numbers of f, with noughts behind up to so many."""
    return [py(number) for number in f] + [Fraction(0)] * (many - len(f))


def product(f, g):
    """The product of two polynomials, number by number."""
    numbers = [Fraction(0)] * max(0, len(f) + len(g) - 1)
    for j, one in enumerate(f):
        for k, other in enumerate(g):
            numbers[j + k] += py(one) * py(other)
    return cut(numbers)


def total(f, g):
    """The sum of two polynomials, number by number."""
    many = max(len(f), len(g))
    return cut(one + other for one, other in zip(padded(f, many), padded(g, many)))


def with_roots(*roots):
    """The polynomial led by 1 that has just these roots, each as often as it stands there."""
    f = poly(1)
    for root in roots:
        f = product(f, poly(-Fraction(root), 1))
    return f


def some_whole(chance, figures):
    """A whole number of at most so many figures, of either sign."""
    bound = 10 ** chance.randint(1, figures)
    return chance.randint(1 - bound, bound - 1)


def some_fraction(chance, figures):
    """A fraction whose top and bottom have at most so many figures."""
    return our(Fraction(some_whole(chance, figures), abs(some_whole(chance, figures)) or 1))


def some_polynomial(chance, many, figures):
    """A polynomial of just so many numbers."""
    numbers = [some_fraction(chance, figures) for _ in range(many)]
    while numbers and numbers[-1] == (0, 1):
        numbers[-1] = some_fraction(chance, figures)
    return numbers


def nested(depth):
    """A list in a list in a list, so deep."""
    thing = []
    for _ in range(depth - 1):
        thing = [thing]
    return thing


def cross(*factors):
    """The product of some polynomials."""
    f = poly(1)
    for factor in factors:
        f = product(f, factor)
    return f


def value(f, x):
    """The number that f comes to at one of Python's own fractions."""
    return sum((py(number) * Fraction(x) ** k for k, number in enumerate(f)), Fraction(0))


def some_crowd(chance, many, figures):
    """A crowd of just so many spots."""
    spots = set()
    while len(spots) < many:
        spots.add(py(some_fraction(chance, figures)))
    weights = [abs(py(some_fraction(chance, figures))) or Fraction(1) for _ in spots]
    return [(our(spot), our(weight)) for spot, weight in zip(sorted(spots), weights)]


def crowd(*pairs):
    """The crowd of some pairs (spot, weight) of numbers."""
    return [(our(spot), our(weight)) for spot, weight in pairs]


def sums_by_hand(pairs, many):
    """The sums of a crowd, power by power."""
    return [our(sum((py(weight) * py(spot) ** k for spot, weight in pairs), Fraction(0))) for k in range(many)]


class Surd:
    """The number part + times * the square root of under, all exact; under is no square."""

    def __init__(self, part, times=0, under=2):
        self.part, self.times, self.under = Fraction(part), Fraction(times), under

    def least(self):
        """The polynomial led by 1 of least degree that has it as a root."""
        if self.times == 0:
            return poly(-self.part, 1)
        return poly(self.part ** 2 - self.times ** 2 * self.under, -2 * self.part, 1)

    def near(self):
        """One of Python's own fractions so near that these are ordered as the numbers are."""
        return self.part + self.times * Fraction(isqrt(self.under * 10 ** 200), 10 ** 100)

    def sign(self):
        """The sign of the number."""
        one, other = self.part, self.times
        if one >= 0 and other >= 0:
            return 1 if one > 0 or other > 0 else 0
        if one <= 0 and other <= 0:
            return -1
        squares = one ** 2 - other ** 2 * self.under
        return (1 if squares > 0 else -1) * (1 if one > 0 else -1)

    def put_in(self, f):
        """What f comes to at the number."""
        told = Surd(0, 0, self.under)
        for number in reversed(f):
            part = told.part * self.part + told.times * self.times * self.under + py(number)
            told = Surd(part, told.part * self.times + told.times * self.part, self.under)
        return told


def surds_of(roots):
    """The numbers and, where they are no fractions, those that share their least polynomial, rising."""
    told = {}
    for root in roots:
        for times in (root.times, -root.times):
            told[(root.part, times, root.under if times else 0)] = Surd(root.part, times, root.under)
    return sorted(told.values(), key=Surd.near)


def rest_by_hand(f, g):
    """The rest of f by g."""
    rest = padded(f, len(f))
    while len(rest) >= len(g):
        times = rest[-1] / py(g[-1])
        for k, number in enumerate(g):
            rest[len(rest) - len(g) + k] -= times * py(number)
        rest.pop()
    return cut(rest)


def chain_by_hand(f):
    """The chain of f, link by link."""
    told = [f, cut(k * py(number) for k, number in enumerate(f) if k > 0)]
    while told[-1]:
        told.append(cut(-py(number) for number in rest_by_hand(told[-2], told[-1])))
    return told[:-1]


def changes_by_hand(links, x):
    """How often the signs of a chain's links change at one of Python's own fractions."""
    numbers = [number for number in (value(link, x) for link in links) if number != 0]
    return sum((one < 0) != (other < 0) for one, other in zip(numbers, numbers[1:]))


def real_roots(f):
    """Tuples (low, high) around the real roots of f, which has none twice: both no roots, and very near."""
    links = chain_by_hand(f)
    bound = 1 + max((abs(py(number) / py(f[-1])) for number in f), default=0)
    waiting, told = [(-bound, bound)], []
    while waiting:
        low, high = waiting.pop()
        many = changes_by_hand(links, low) - changes_by_hand(links, high)
        if many == 1 and high - low < Fraction(1, 10 ** 30):
            told.append((low, high))
        elif many > 0:
            # Not halves, so that no root that is a plain fraction is hit.
            middle = low + (high - low) * Fraction(5001, 10007)
            assert value(f, middle) != 0
            waiting += [(middle, high), (low, middle)]
    return told


def is_flock_by_hand(roots, weights):
    """Whether two polynomials are a flock, but for roots that are very near those of the weights."""
    if not roots or roots[-1] != (1, 1) or len(roots) > 7 or len(weights) >= len(roots):
        return False
    if len(chain_by_hand(roots)[-1]) > 1:
        return False
    around = real_roots(roots)
    return len(around) == len(roots) - 1 and all(value(weights, x) > 0 for ends in around for x in ends)


def flock_sums_by_hand(roots, weights, many):
    """The sums of a flock: traces of a matrix whose proper numbers are the roots."""
    size = len(roots) - 1

    def grow(row):
        """The row of x times a polynomial of lesser degree, as the rest by the roots."""
        return [(row[k - 1] if k else 0) - row[-1] * py(roots[k]) for k in range(size)]

    rows = []
    for place in range(size):
        row = [Fraction(int(k == place)) for k in range(size)]
        whole = [Fraction(0)] * size
        for number in weights:
            whole = [one + py(number) * other for one, other in zip(whole, row)]
            row = grow(row)
        rows.append(whole)
    told = []
    for _ in range(many):
        told.append(our(sum((rows[k][k] for k in range(size)), Fraction(0))))
        rows = [grow(row) for row in rows]
    return told


def square(sums, f, g):
    """The square sum of two polynomials, as one of Python's own fractions."""
    return sum((py(one) * py(other) for one, other in zip(product(f, g), sums)), Fraction(0))


def bars_by_hand(sums, bar):
    """Whether a tuple with a word and polynomials is a bar of the sums."""
    word, f, *others = bar
    if word == "below":
        return not others and len(product(f, f)) <= len(sums) and square(sums, f, f) < 0
    g, = others
    fits = max(len(product(f, f)), len(product(f, g))) <= len(sums)
    return word == "nought" and fits and square(sums, f, f) == 0 and square(sums, f, g) != 0


def drawn_sums(chance, many, figures):
    """Sums of one sort or another: drawn ones, those of a crowd, such with one changed."""
    sort = chance.randrange(3)
    if sort == 0:
        return [some_fraction(chance, figures) for _ in range(many)]
    sums = sums_by_hand(some_crowd(chance, chance.randint(0, 6), figures), many)
    if sort == 1:
        sums[chance.randrange(many)] = some_fraction(chance, figures)
    return sums


def some_roots(chance, many):
    """Some numbers, fractions and others."""
    told = []
    for _ in range(many):
        part = py(some_fraction(chance, chance.choice((1, 2))))
        times = chance.choice((0, 0, py(some_fraction(chance, 1))))
        told.append(Surd(part, times, chance.choice((2, 3, 5))))
    return told


NO_ROOTS = (poly(1, 0, 1), poly(3, 2, 1), poly("1/2", 0, 0, 0, 7))


def with_surds(chance, roots):
    """A polynomial whose real roots are these numbers and those that come with them, up to three times each."""
    f = poly(py(some_fraction(chance, 2)) or 1)
    unlike = {}
    for root in roots:
        unlike[tuple(root.least())] = root.least()
    for factor in unlike.values():
        for _ in range(chance.choice((1, 1, 2, 3))):
            f = cross(f, factor)
    if chance.random() < 0.3:
        f = cross(f, chance.choice(NO_ROOTS))
    return f


# Sums that no flock has.
BARRED = (
    poly(-1), poly(0, 1), poly(0, 0, -2), poly(1, 2, 1), poly(1, 1, 1, 2), poly(1, 0, 1, 0, 1, 1), poly(0, 0, 0, 0, 7),
    poly(*[0] * 10, 1), poly(1, 1, 0, 5, 5), poly(2, 0, 2, 0, 1), poly("-1/1000000", 5),
)


def has_flock(sums):
    """Whether some flock has the sums."""
    return back(sums)[0] == "flock"


def flocks_sums(chance, many):
    """Sums that some flock has."""
    while True:
        sums = drawn_sums(chance, many, 1)
        if has_flock(sums):
            return sums


# Roots that are no fractions, with weights above 0 at each.
FLOCKS = (
    (poly(-2, 0, 1), poly(1)),
    (poly(-2, 0, 1), poly(3, 2)),
    (poly(-1, -1, 1), poly("1/2", "1/3")),
    (poly(1, -3, 0, 1), poly(5, 1, "1/7")),
    (cross(poly(-2, 0, 1), poly(-3, 0, 1), poly(-5, 0, 1)), poly(40, 1, 1, 1, "1/9", "1/9")),
    (cross(poly(-2, 0, 1), poly(0, 1)), poly(1, 0, 1)),
)
