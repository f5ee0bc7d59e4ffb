"""Tables above a bottom, read from texts and shown as texts."""

from evenmix.errors import NoText
from evenmix.tables import MOST
from evenmix.terms import check_bottom, greatest_divisor

FIGURES = "0123456789"
MOST_FIGURES = 30
PIECE = 1000000000000000000
PIECE_FIGURES = 18


def read_table(text):
    # What is no text has no parts that could be asked for: so this goes ahead.
    if not isinstance(text, str):
        raise NoText("only a text can be read")
    lines = [line.split(" ") for line in text.split("; ")]
    if not is_shaped(lines) or not all([is_written(line) for line in lines]):
        raise NoText("this is not how a table is written")
    bottom = common_bottom(lines)
    return ([raised_tops(line, bottom) for line in lines], bottom)


def is_shaped(lines):
    if len(lines) > MOST or len(lines[0]) > MOST:
        return False
    return all([len(line) == len(lines[0]) for line in lines])


def is_written(line):
    return all([is_fraction(word) for word in line])


def is_fraction(word):
    parts = without_sign(word).split("/")
    if len(parts) > 2 or not all([is_figures(part) for part in parts]):
        return False
    # No -0, and no 0 above a bottom, which would not be in lowest terms.
    if parts[0] == "0":
        return word == "0"
    return len(parts) == 1 or is_lowest(int(parts[0]), int(parts[1]))


def without_sign(word):
    return word[1:] if word.startswith("-") else word


def is_figures(part):
    if not 1 <= len(part) <= MOST_FIGURES or not all([sign in FIGURES for sign in part]):
        return False
    return part == "0" or part[0] != "0"


def is_lowest(top, bottom):
    return bottom >= 2 and greatest_divisor(top, bottom) == 1


def top_of(word):
    return int(word.partition("/")[0])


def bottom_of(word):
    bottom = word.partition("/")[2]
    return int(bottom) if bottom != "" else 1


def common_bottom(lines):
    common = 1
    for line in lines:
        for word in line:
            bottom = bottom_of(word)
            common = common // greatest_divisor(common, bottom) * bottom
    return common


def raised_tops(line, bottom):
    # Each fraction has lowest terms and the bottom is the least common one: so the table has least terms.
    return [top_of(word) * (bottom // bottom_of(word)) for word in line]


def show_table(table, bottom):
    check_bottom(bottom)
    return "; ".join([shown_row(row, bottom) for row in table])


def shown_row(row, bottom):
    return " ".join([shown_fraction(cell, bottom) for cell in row])


def shown_fraction(cell, bottom):
    divisor = greatest_divisor(bottom, abs(cell))
    sign = "-" if cell < 0 else ""
    top = shown_number(abs(cell) // divisor)
    if divisor == bottom:
        return sign + top
    return sign + top + "/" + shown_number(bottom // divisor)


def shown_number(number):
    # Python writes no number of some thousand figures at once, and a told table may have such: so piece by piece.
    pieces = []
    while number >= PIECE:
        pieces.append(str(number % PIECE).zfill(PIECE_FIGURES))
        number = number // PIECE
    pieces.append(str(number))
    return "".join(reversed(pieces))
