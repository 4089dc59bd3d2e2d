"""Books written as bytes, and opened from them [g1, g2, g3]."""

from homingtrue.books import KINDS, Book
from homingtrue.clubs import read_club
from homingtrue.errors import ClubFault, InvalidBytes
from homingtrue.writing import write_club

BASE = 128
FIRST_SUM = 9
FACTOR = 139
MODULUS = 65521
# How many integers stand behind the kind.
INTEGERS = {"clock": 5, "slip": 3, "stake": 3, "transfer": 2}
# A line with any other character is none of a club, and none but the letters stand in a word.
CHARACTERS = "\n -0123456789abcdefghijklmnopqrstuvwxyz"


def number_bytes(n):
    """The bytes of an integer from 0 on."""
    digits = []
    while n >= BASE:
        digits.append(n % BASE + BASE)
        n //= BASE
    return digits + [n]


def read_number(data, at):
    """The integer that begins at an index, and the index behind it; None if there is none."""
    number = 0
    weight = 1
    for end in range(at, len(data)):
        digit = data[end]
        if digit < BASE:
            # A last digit of 0 behind others would write a number in a second way.
            if digit == 0 and end > at:
                return None
            return (number + digit * weight, end + 1)
        number += (digit - BASE) * weight
        weight *= BASE
    return None


def sum_of_body(body):
    """The sum by which a damaged body is found out."""
    total = FIRST_SUM
    for byte in body:
        total = (FACTOR * total + byte) % MODULUS
    return total


def record_of(body):
    """The bytes of the record with a body."""
    return number_bytes(len(body)) + list(body) + number_bytes(sum_of_body(body))


def read_record(data, at):
    """The body of the whole record that begins at an index, and the index behind it; None if there is none."""
    length = read_number(data, at)
    if length is None:
        return None
    end = length[1] + length[0]
    total = read_number(data, end)
    if total is None:
        return None
    body = list(data[length[1]:end])
    if total[0] != sum_of_body(body):
        return None
    return (body, total[1])


def codes_of(text):
    """The codes of the characters of a text."""
    return [ord(character) for character in text]


def text_of(codes):
    """The text of codes; None if one of them can stand neither in a club nor in a word."""
    known = {ord(character): character for character in CHARACTERS}
    if not all([code in known for code in codes]):
        return None
    return "".join([known[code] for code in codes])


def telling_bytes(telling):
    """The body of the record of a telling."""
    stamp, source, entry = telling
    body = []
    for part in [stamp, source, KINDS.index(entry[0])] + written_parts(entry):
        if isinstance(part, str):
            body += number_bytes(len(part)) + codes_of(part)
        else:
            body += number_bytes(part)
    return body


def written_parts(entry):
    """The parts behind the kind of an entry, as a log has them."""
    if entry[0] != "slip":
        return list(entry[1:])
    _, race, ring, reading = entry
    return [race, ring, 0 if reading is None else reading + 1]


def read_telling(body):
    """The telling that a body is, whatever club it is of; None if it is none."""
    head = read_numbers(body, 0, 3)
    if head is None:
        return None
    (stamp, source, number), at = head
    if number >= len(KINDS):
        return None
    kind = KINDS[number]
    found = read_parts(kind, body, at)
    if found is None or found[1] != len(body):
        return None
    return (stamp, source, (kind,) + tuple(found[0]))


def read_parts(kind, body, at):
    """The list of the parts of an entry that begin at an index, and the index behind them; None if they don't."""
    found = read_numbers(body, at, INTEGERS[kind])
    if found is None:
        return None
    parts, end = found
    if kind == "transfer":
        word = read_word(body, end)
        return None if word is None else (parts + [word[0]], word[1])
    if kind == "slip":
        race, ring, reading = parts
        parts = [race, ring, None if reading == 0 else reading - 1]
    return (parts, end)


def read_numbers(data, at, many):
    """The list of so many integers that begin at an index, and the index behind them; None if they don't."""
    numbers = []
    end = at
    for _ in range(many):
        found = read_number(data, end)
        if found is None:
            return None
        number, end = found
        numbers.append(number)
    return (numbers, end)


def read_word(data, at):
    """The word that begins at an index, and the index behind it; None if there is none."""
    length = read_number(data, at)
    if length is None:
        return None
    end = length[1] + length[0]
    word = text_of(data[length[1]:end])
    if word is None or end > len(data):
        return None
    return (word, end)


def log_of(book):
    """The bytes of the log of a book."""
    data = record_of(codes_of(write_club(book.club())))
    for telling in book.held():
        data += record_of(telling_bytes(telling))
    return data


def opened(data, source):
    """The book of the whole records of a log, and the index behind the last one that was taken."""
    first = read_record(data, 0)
    if first is None:
        raise InvalidBytes(0)
    body, at = first
    book = Book(source, club_of(body))
    found = read_record(data, at)
    while found is not None:
        telling = read_telling(found[0])
        if telling is None or not book.take(telling):
            return (book, at)
        at = found[1]
        found = read_record(data, at)
    return (book, at)


def club_of(body):
    """The club of the first record of a log."""
    text = text_of(body)
    if text is None:
        raise InvalidBytes(0)
    try:
        return read_club(text)
    except ClubFault:
        raise InvalidBytes(0) from None
