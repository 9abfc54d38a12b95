"""What the tests share: answers worked out another way, by Python's own fractions, and made-up inputs."""

from fractions import Fraction


def py(one):
    """Python's own fraction of a fraction of the program."""
    return Fraction(one[0], one[1])


def our(number):
    """The fraction of the program of Python's own, or of a whole number."""
    number = Fraction(number)
    return (number.numerator, number.denominator)


def poly(*numbers):
    """The list of fractions of some numbers: whole ones, Python's own fractions, or texts like 1/2."""
    return [our(number) for number in numbers]


def cut(numbers):
    """Python's own numbers without the noughts behind, as a polynomial of the program."""
    numbers = list(numbers)
    while numbers and numbers[-1] == 0:
        numbers.pop()
    return [our(number) for number in numbers]


def padded(f, many):
    """Python's own numbers of f, with noughts behind up to so many."""
    return [py(number) for number in f] + [Fraction(0)] * (many - len(f))


def product(f, g):
    """The product of two polynomials, number by number."""
    numbers = [Fraction(0)] * max(0, len(f) + len(g) - 1)
    for j, one in enumerate(f):
        for k, other in enumerate(g):
            numbers[j + k] += py(one) * py(other)
    return cut(numbers)


def total(f, g):
    """The sum of two polynomials, number by number."""
    many = max(len(f), len(g))
    return cut(one + other for one, other in zip(padded(f, many), padded(g, many)))


def with_roots(*roots):
    """The polynomial led by 1 that has just these roots, each as often as it stands there."""
    f = poly(1)
    for root in roots:
        f = product(f, poly(-Fraction(root), 1))
    return f


def some_whole(chance, figures):
    """A whole number of at most so many figures, of either sign."""
    bound = 10 ** chance.randint(1, figures)
    return chance.randint(1 - bound, bound - 1)


def some_fraction(chance, figures):
    """A fraction whose top and bottom have at most so many figures."""
    return our(Fraction(some_whole(chance, figures), abs(some_whole(chance, figures)) or 1))


def some_polynomial(chance, many, figures):
    """A polynomial of just so many numbers."""
    numbers = [some_fraction(chance, figures) for _ in range(many)]
    while numbers and numbers[-1] == (0, 1):
        numbers[-1] = some_fraction(chance, figures)
    return numbers


def nested(depth):
    """A list in a list in a list, so deep."""
    thing = []
    for _ in range(depth - 1):
        thing = [thing]
    return thing
