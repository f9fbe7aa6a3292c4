"""What codes, shapes and joint machines share: states from memories, letters, numbers in texts."""

from bestcodes.errors import BadText, TooMany

MOST_STATES = 40
MOST_DIGITS = 4000


def explored(values, start, step, most):
    """The memories that columns leave, and for each the numbers of those behind its values.

    step(memory, value) tells the memory behind the value, None if it leads nowhere.
    Memories are found in the order of the first columns that leave them, since
    each is asked for its values, in order, before any that was found later.
    """
    memories = [start]
    numbers = {start: 0}
    rows = []
    while len(rows) < len(memories):
        row = []
        for value in values:
            memory = step(memories[len(rows)], value)
            if memory is not None and memory not in numbers:
                numbers[memory] = len(memories)
                memories.append(memory)
            row.append(numbers.get(memory))
        # looked at before the next row, so that a large machine is never built
        if len(memories) > most:
            raise TooMany("states")
        rows.append(row)
    return memories, rows


def strange_place(letters, text):
    """The place of the first letter of the text that is none of letters, or None."""
    for place, letter in enumerate(text):
        if letter not in letters:
            return place
    return None


def are_values(word):
    """Whether a word tells values: 1 to 3 different letters a to z, ascending."""
    if not 1 <= len(word) <= 3 or strange_place("abcdefghijklmnopqrstuvwxyz", word) is not None:
        return False
    return list(word) == sorted(set(word))


def read_lines(title, text):
    """The values that line 1 of a text tells, and the words of each line behind it."""
    # split(" ") and not split(): words are parted by spaces alone, not by tabs
    lines = [[word for word in line.split(" ") if word] for line in text.split("\n")]
    head = lines[0]
    if len(head) != 2 or head[0] != title or not are_values(head[1]):
        raise BadText(1)
    if len(lines) == 1:
        raise BadText(2)
    return head[1], lines[1:]


def read_number(word):
    """The number that a word tells, None if it tells none."""
    # isascii, because isdigit alone lets the digits of other scripts pass
    if len(word) > MOST_DIGITS or not word.isascii() or not word.isdigit():
        return None
    if word[0] == "0" and word != "0":
        return None
    return int(word)


def decimal(number):
    """The digits of a number of any size."""
    # by pieces, because str refuses numbers of some thousand digits
    rest = number
    pieces = []
    while rest >= 10 ** 60:
        rest, piece = divmod(rest, 10 ** 60)
        pieces.append(str(piece).zfill(60))
    return str(rest) + "".join(reversed(pieces))
