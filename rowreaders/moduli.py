"""Reckoning modulo a number, for what would take too long with exact numbers from the beginning."""


def inverse(value, modulus):
    """The number by which a value is 1 modulo the modulus, or None if there is none."""
    # Each left number is, modulo the modulus, the value times the factor beside it.
    left, factor = value % modulus, 1
    other, other_factor = modulus, 0
    while left:
        times = other // left
        left, other = other - times * left, left
        factor, other_factor = other_factor - times * factor, factor
    return other_factor % modulus if other == 1 else None


def centred(value, modulus):
    """The number nearest to 0 that is the value modulo the modulus."""
    return value if 2 * value <= modulus else value - modulus
