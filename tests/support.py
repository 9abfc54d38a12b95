"""What the tests share: answers worked out another way, by Python's own fractions, and made-up inputs."""

from fractions import Fraction
from math import isqrt


def py(one):
    """Python's own fraction of a fraction of the program."""
    return Fraction(one[0], one[1])


def our(number):
    """The fraction of the program of Python's own, or of a whole number."""
    number = Fraction(number)
    return (number.numerator, number.denominator)


def poly(*numbers):
    """The list of fractions of some numbers: whole ones, Python's own fractions, or texts like 1/2."""
    return [our(number) for number in numbers]


def cut(numbers):
    """Python's own numbers without the noughts behind, as a polynomial of the program."""
    numbers = list(numbers)
    while numbers and numbers[-1] == 0:
        numbers.pop()
    return [our(number) for number in numbers]


def padded(f, many):
    """Python's own numbers of f, with noughts behind up to so many."""
    return [py(number) for number in f] + [Fraction(0)] * (many - len(f))


def product(f, g):
    """The product of two polynomials, number by number."""
    numbers = [Fraction(0)] * max(0, len(f) + len(g) - 1)
    for j, one in enumerate(f):
        for k, other in enumerate(g):
            numbers[j + k] += py(one) * py(other)
    return cut(numbers)


def total(f, g):
    """The sum of two polynomials, number by number."""
    many = max(len(f), len(g))
    return cut(one + other for one, other in zip(padded(f, many), padded(g, many)))


def with_roots(*roots):
    """The polynomial led by 1 that has just these roots, each as often as it stands there."""
    f = poly(1)
    for root in roots:
        f = product(f, poly(-Fraction(root), 1))
    return f


def some_whole(chance, figures):
    """A whole number of at most so many figures, of either sign."""
    bound = 10 ** chance.randint(1, figures)
    return chance.randint(1 - bound, bound - 1)


def some_fraction(chance, figures):
    """A fraction whose top and bottom have at most so many figures."""
    return our(Fraction(some_whole(chance, figures), abs(some_whole(chance, figures)) or 1))


def some_polynomial(chance, many, figures):
    """A polynomial of just so many numbers."""
    numbers = [some_fraction(chance, figures) for _ in range(many)]
    while numbers and numbers[-1] == (0, 1):
        numbers[-1] = some_fraction(chance, figures)
    return numbers


def nested(depth):
    """A list in a list in a list, so deep."""
    thing = []
    for _ in range(depth - 1):
        thing = [thing]
    return thing


def cross(*factors):
    """The product of some polynomials."""
    f = poly(1)
    for factor in factors:
        f = product(f, factor)
    return f


def value(f, x):
    """The number that f comes to at one of Python's own fractions."""
    return sum((py(number) * Fraction(x) ** k for k, number in enumerate(f)), Fraction(0))


def some_crowd(chance, many, figures):
    """A crowd of just so many spots."""
    spots = set()
    while len(spots) < many:
        spots.add(py(some_fraction(chance, figures)))
    weights = [abs(py(some_fraction(chance, figures))) or Fraction(1) for _ in spots]
    return [(our(spot), our(weight)) for spot, weight in zip(sorted(spots), weights)]


def crowd(*pairs):
    """The crowd of some pairs (spot, weight) of numbers."""
    return [(our(spot), our(weight)) for spot, weight in pairs]


def sums_by_hand(pairs, many):
    """The sums of a crowd, power by power."""
    return [our(sum((py(weight) * py(spot) ** k for spot, weight in pairs), Fraction(0))) for k in range(many)]


class Surd:
    """The number part + times * the square root of under, all exact; under is no square."""

    def __init__(self, part, times=0, under=2):
        self.part, self.times, self.under = Fraction(part), Fraction(times), under

    def least(self):
        """The polynomial led by 1 of least degree that has it as a root."""
        if self.times == 0:
            return poly(-self.part, 1)
        return poly(self.part ** 2 - self.times ** 2 * self.under, -2 * self.part, 1)

    def near(self):
        """One of Python's own fractions so near that these are ordered as the numbers are."""
        return self.part + self.times * Fraction(isqrt(self.under * 10 ** 200), 10 ** 100)

    def sign(self):
        """The sign of the number."""
        one, other = self.part, self.times
        if one >= 0 and other >= 0:
            return 1 if one > 0 or other > 0 else 0
        if one <= 0 and other <= 0:
            return -1
        squares = one ** 2 - other ** 2 * self.under
        return (1 if squares > 0 else -1) * (1 if one > 0 else -1)

    def put_in(self, f):
        """What f comes to at the number."""
        told = Surd(0, 0, self.under)
        for number in reversed(f):
            part = told.part * self.part + told.times * self.times * self.under + py(number)
            told = Surd(part, told.part * self.times + told.times * self.part, self.under)
        return told


def surds_of(roots):
    """The numbers and, where they are no fractions, those that share their least polynomial, rising."""
    told = {}
    for root in roots:
        for times in (root.times, -root.times):
            told[(root.part, times, root.under if times else 0)] = Surd(root.part, times, root.under)
    return sorted(told.values(), key=Surd.near)
