"""Programs: what is one, and how it is written as a text and read back."""

from wildtakes.errors import BadProgram, BadText

LETTERS = "abcdefghijklmnopqrstuvwxyz"
DIGITS = "0123456789"
LONGEST_BOX = 3
HIGHEST_MARK = 9
HIGHEST_NUMBER = 1000000
MOST_DIGITS = 7
LEAST_HANDS = 2
MOST_HANDS = 5
MOST_ROWS = 40

FORMS = {
    "send": ("hand", "mark", "thing"),
    "take": ("any hand", "any mark", "box"),
    "post": ("box", "any hand", "any mark", "box"),
    "wait": ("box",),
    "tell": ("thing",),
    "add": ("box", "thing", "thing"),
    "case": ("box", "number", "rows", "rows"),
    "all": (),
}


def is_whole(thing):
    """Whether it is a whole number, which no truth is."""
    return isinstance(thing, int) and not isinstance(thing, bool)


def is_mark(thing):
    """Whether it is a mark."""
    return is_whole(thing) and 0 <= thing <= HIGHEST_MARK


def is_number(thing):
    """Whether it is a whole number that may stand in a row."""
    return is_whole(thing) and -HIGHEST_NUMBER <= thing <= HIGHEST_NUMBER


def is_box(thing):
    """Whether it is a box."""
    if not isinstance(thing, str) or not 1 <= len(thing) <= LONGEST_BOX:
        return False
    return all([sign in LETTERS for sign in thing])


def is_thing(thing):
    """Whether it is a thing that can be sent, told or added."""
    return is_number(thing) or is_box(thing)


def is_rows(thing):
    """Whether it can hold rows; is_program looks into it later."""
    return isinstance(thing, tuple)


CHECKS = {
    "mark": is_mark,
    "any mark": is_mark,
    "number": is_number,
    "box": is_box,
    "thing": is_thing,
    "rows": is_rows,
}


def may_be_any(kind):
    """Whether None may stand in a place of this kind."""
    return kind in ("any hand", "any mark")


def fits_place(thing, kind, others):
    """Whether the thing may stand in a place of this kind, in a row of a hand that has these others."""
    if thing is None:
        return may_be_any(kind)
    if kind in ("hand", "any hand"):
        return is_whole(thing) and thing in others
    check = CHECKS[kind]
    return check(thing)


def is_row(row, others):
    """Whether it is a row of a hand that has these others, but for the rows within it."""
    if not isinstance(row, tuple) or len(row) == 0 or not isinstance(row[0], str):
        return False
    form = FORMS.get(row[0])
    if form is None or len(row) != len(form) + 1:
        return False
    return all([fits_place(thing, kind, others) for thing, kind in zip(row[1:], form)])


def rows_within(row):
    """The tuples of rows that stand in a row."""
    return [row[3], row[4]] if row[0] == "case" else []


def count_rows(script, others):
    """How many rows a script has, those within others too; None if it is no script.

    It stops where a program can't have as many rows: so what lies deep within is not walked to its end.
    """
    many = 0
    pending = [script]
    while pending:
        rows = pending.pop()
        if not isinstance(rows, tuple):
            return None
        many += len(rows)
        if many > MOST_ROWS:
            return None
        for row in rows:
            if not is_row(row, others):
                return None
            pending.extend(rows_within(row))
    return many


def is_program(thing):
    """Whether it is a program."""
    if not isinstance(thing, tuple) or not LEAST_HANDS <= len(thing) <= MOST_HANDS:
        return False
    many = 0
    for hand, script in enumerate(thing):
        others = [other for other in range(len(thing)) if other != hand]
        rows = count_rows(script, others)
        if rows is None:
            return False
        many += rows
    return many <= MOST_ROWS


def check_program(thing):
    """Refuses what is no program."""
    if not is_program(thing):
        raise BadProgram("this is no program")


def all_rows(program):
    """The list of all rows of a program, those within others too."""
    found = []
    pending = list(program)
    while pending:
        rows = pending.pop()
        for row in rows:
            found.append(row)
            pending.extend(rows_within(row))
    return found


def is_wild(row):
    """Whether a row is a take or a post from any hand."""
    if row[0] == "take":
        return row[1] is None
    return row[0] == "post" and row[2] is None


def wild_takes(program):
    """How many takes and posts of a program are wild, those within cases too."""
    check_program(program)
    return len([row for row in all_rows(program) if is_wild(row)])


def word_text(thing):
    """The text of what stands in a row and is no rows itself."""
    return "any" if thing is None else str(thing)


def rows_text(rows):
    """The text of some rows."""
    texts = []
    for row in rows:
        words = []
        for thing in row:
            if isinstance(thing, tuple):
                words.append("{" + rows_text(thing) + "}")
            else:
                words.append(word_text(thing))
        texts.append(" ".join(words))
    return "; ".join(texts)


def program_text(program):
    """The text of a program."""
    check_program(program)
    return "".join([rows_text(script) + "\n" for script in program])


def is_number_text(word):
    """Whether a word can be read as a number."""
    digits = word[1:] if word.startswith("-") else word
    # The length is asked first, since int() has a bound of its own for very long texts.
    return 1 <= len(digits) <= MOST_DIGITS and all([sign in DIGITS for sign in digits])


def next_kind(row):
    """The kind of the place behind what was read of a row; None if there is no such place."""
    if len(row) == 0 or not isinstance(row[0], str):
        return None
    form = FORMS.get(row[0], ())
    place = len(row) - 1
    return form[place] if place < len(form) else None


def read_word(word, row):
    """What a word means behind what was read of its row: `any` may be a box, too."""
    if word == "any" and may_be_any(next_kind(row)):
        return None
    if is_number_text(word):
        return int(word)
    return word


def split_words(line):
    """The words of a line, and its braces and semicolons as words of their own."""
    for sign in "{};":
        line = line.replace(sign, " " + sign + " ")
    return line.split()


def with_last(rows, row):
    """The rows and a last one, if there is something of it, as a tuple."""
    if len(row) > 0:
        rows = rows + [tuple(row)]
    return tuple(rows)


def read_line(line):
    """The rows of a line, read loosely: read_program looks whether they stood there just so.

    So blanks too many, needless zeros and braces left open are no matter here.
    """
    around = []
    rows = []
    row = []
    for word in split_words(line):
        if word == "{":
            around.append((rows, row))
            rows = []
            row = []
        elif word == "}":
            if len(around) == 0:
                raise BadText("a brace is closed that was not opened")
            within = with_last(rows, row)
            rows, row = around.pop()
            row.append(within)
        elif word == ";":
            rows.append(tuple(row))
            row = []
        else:
            row.append(read_word(word, row))
    return with_last(rows, row)


def read_program(text):
    """The program of which this is the text."""
    if not isinstance(text, str):
        raise BadText("this is no text")
    program = tuple([read_line(line) for line in text.split("\n")[:-1]])
    if not is_program(program) or program_text(program) != text:
        raise BadText("this is not the text of a program")
    return program
