"""Sums of parts as texts."""

from answerlines.fractions import fraction_text


def signed_parts(parts):
    """Return the text of parts, pairs of a number and a text without its sign."""
    first, part = parts[0]
    text = f"-{part}" if first < 0 else part
    for number, part in parts[1:]:
        text += f" - {part}" if number < 0 else f" + {part}"
    return text


def sum_text(told):
    """Return the text of told, a sum of names."""
    named, constant = told
    parts = [(number[0], _part_text(name, number)) for name, number in named]
    if constant[0] != 0 or not parts:
        parts.append((constant[0], _size_text(constant)))
    return signed_parts(parts)


def _part_text(name, number):
    size = _size_text(number)
    return name if size == "1" else f"{size}*{name}"


def _size_text(number):
    return fraction_text((abs(number[0]), number[1]))
