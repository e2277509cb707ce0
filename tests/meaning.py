"""What formulas mean, found in another way than the package finds it: quantifier by quantifier.

Whether a formula holds hangs only on the signs of some sums of its free names: those of its
comparisons, and those at which sums with a bound name meet. So for a quantifier it is enough
to try each border of its name, a number between each two, and one beyond them on each side.
"""

from fractions import Fraction


def means(formula, world):
    """Tell whether formula holds in world, a dict of Fractions; for few quantifiers."""
    word = formula[0]
    if word in ("ge", "gt", "eq"):
        worth = worth_in(plain(formula[1]), world)
        return worth == 0 if word == "eq" else worth > 0 or (worth == 0 and word == "ge")
    if word == "not":
        return not means(formula[1], world)
    if word == "and":
        return all(means(part, world) for part in formula[1])
    if word == "or":
        return any(means(part, world) for part in formula[1])
    name, inner = formula[1:]
    answers = (means(inner, {**world, name: own}) for own in tried(borders_of(inner), name, world))
    return any(answers) if word == "some" else all(answers)


def tried(borders, name, world):
    """Return the worths of name to be tried in world."""
    at = set()
    for border in borders:
        names = dict(border[0])
        if name in names:
            left = {**world, name: Fraction(0)}
            at.add(-worth_in(border, left) / names[name])
    at = sorted(at)
    between = [(one + other) / 2 for one, other in zip(at, at[1:])]
    return at + between + ([at[0] - 1, at[-1] + 1] if at else [Fraction(0)])


def plain(told):
    """Return the sum told with Fractions."""
    return (tuple((name, Fraction(*number)) for name, number in told[0]), Fraction(*told[1]))


def worth_in(border, world):
    """Return the worth of border in world."""
    return border[1] + sum(number * world[name] for name, number in border[0])


def borders_of(formula):
    """Return the sums on whose signs it hangs whether formula holds."""
    word = formula[0]
    if word in ("ge", "gt", "eq"):
        return {scaled(plain(formula[1]))}
    if word == "not":
        return borders_of(formula[1])
    if word in ("and", "or"):
        return {border for part in formula[1] for border in borders_of(part)}
    inner = borders_of(formula[2])
    having = [border for border in inner if formula[1] in dict(border[0])]
    meeting = {met(formula[1], one, other) for one in having for other in having if one != other}
    return {border for border in inner if border not in having} | meeting


def met(name, one, other):
    """Return the sum that is 0 where both come to 0 at one worth of name."""
    by, to = dict(one[0])[name], dict(other[0])[name]
    names = sorted({other_name for other_name, _ in one[0] + other[0]} - {name})
    mine, theirs = dict(one[0]), dict(other[0])
    parts = [(own, mine.get(own, 0) / by - theirs.get(own, 0) / to) for own in names]
    return scaled((tuple(part for part in parts if part[1]), one[1] / by - other[1] / to))


def scaled(border):
    """Return border divided by its first number, so that borders alike are the same."""
    numbers = [number for _, number in border[0]] or [border[1] or Fraction(1)]
    return (tuple((name, number / numbers[0]) for name, number in border[0]), border[1] / numbers[0])
