"""The shortest rule of a row of numbers: each is a sum of factors times the ones ahead of it.

A rule is a pair (factors, length): factors[0] is 1, and for each place from length on the sum of factors[k]
times the number k places ahead is 0.
"""

from rowreaders.moduli import centred, inverse

# A prime of which twice the greatest factor of a rule of 200 numbers is far away.
FIRST_MODULUS = (1 << 1279) - 1


def shortest_rule(numbers):
    """The shortest rule, if it is at most half as long as there are numbers, and has not too great factors.

    Modulo a number the shortest rule is not longer than the exact one. So where it holds exactly, it is the one
    that is looked for. Just some numbers fail as moduli, so that one is found that does not.
    """
    modulus = FIRST_MODULUS
    while True:
        factors, length = rule_modulo(numbers, modulus)
        if factors:
            factors = [centred(factor, modulus) for factor in factors]
            if holds(numbers, factors, length):
                return factors, length
        modulus += 2


def holds(numbers, factors, length):
    """Whether a rule holds for the numbers."""
    return all([ahead(numbers, factors, at) == 0 for at in range(length, len(numbers))])


def ahead(numbers, factors, at):
    """The sum of the factors times the numbers from this place backwards."""
    return sum([factors[back] * numbers[at - back] for back in range(min(at + 1, len(factors)))])


def rule_modulo(numbers, modulus):
    """The shortest rule modulo a number, found by Berlekamp's and Massey's way; no factors if this fails."""
    numbers = [number % modulus for number in numbers]
    factors, length = [1], 0
    # The rule ahead of the last one that was longer, and by how much it failed, turned round.
    last, turned, since = [1], 1, 1
    for at in range(len(numbers)):
        wrong = ahead(numbers, factors, at) % modulus
        if wrong and at < 2 * length:
            factors = mended(factors, last, since, wrong * turned % modulus, modulus)
        elif wrong:
            longer = mended(factors, last, since, wrong * turned % modulus, modulus)
            last, turned, since = factors, inverse(wrong, modulus), 0
            if turned is None:
                return [], 0
            factors, length = longer, at + 1 - length
        since += 1
    return factors, length


def mended(factors, last, since, times, modulus):
    """The factors less so many times those of the last rule, moved so far behind."""
    moved = [0] * since + [times * factor for factor in last]
    size = max(len(factors), len(moved))
    factors = factors + [0] * (size - len(factors))
    moved = moved + [0] * (size - len(moved))
    return [(factors[at] - moved[at]) % modulus for at in range(size)]
