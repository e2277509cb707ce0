"""Who wins a sentence, found in another way than the package finds it.

Where the worth of the next unknown is tried, only its order to some borders matters:
those of the rows, and those at which borders of later unknowns meet. So it is enough to
try each border, a number between each two, and one beyond them on each side.
"""

import math
from fractions import Fraction


def who_wins(sentence):
    """Return "some" or "each"; for few unknowns and few rows."""
    owners, lots = sentence
    borders = {numbers for lot in lots for _, numbers in lot}
    levels = []
    for k in reversed(range(len(owners))):
        levels.insert(0, {numbers for numbers in borders if numbers[k + 1]})
        borders = {numbers[:k + 1] for numbers in borders if not numbers[k + 1]} | {
            met(one, other) for one in levels[0] for other in levels[0] if one < other
        }
    return "some" if some_wins(owners, lots, levels, ()) else "each"


def met(one, other):
    """Return the numbers of the border where both meet, without the last unknown."""
    numbers = [a * other[-1] - b * one[-1] for a, b in zip(one, other)][:-1]
    common = math.gcd(*numbers) or 1
    sign = -1 if next((number for number in numbers if number), 1) < 0 else 1
    return tuple(sign * number // common for number in numbers)


def worth(numbers, play):
    """Return the sum that numbers tell at play."""
    return numbers[0] + sum(number * own for number, own in zip(numbers[1:], play))


def some_wins(owners, lots, levels, play):
    """Tell whether SOME wins from play."""
    k = len(play)
    if k == len(owners):
        return any(all(fulfilled(word, worth(numbers, play)) for word, numbers in lot) for lot in lots)
    at = sorted({-worth(numbers[:-1], play) / Fraction(numbers[-1]) for numbers in levels[k]})
    tried = at + [(one + other) / 2 for one, other in zip(at, at[1:])]
    tried += [at[0] - 1, at[-1] + 1] if at else [Fraction(0)]
    answers = (some_wins(owners, lots, levels, play + (own,)) for own in tried)
    return any(answers) if owners[k] == "s" else all(answers)


def fulfilled(word, number):
    """Tell whether number is as word asks."""
    return number > 0 or (number == 0 and word == "ge")
