"""The tokens of a line of a text [b2]."""

LONGEST_WORD = 8
LONGEST_NUMBER = 4


def tokens(line):
    """The list of the tokens of a line, tuples (kind, string)."""
    found = []
    at = 0
    while at < len(line):
        if line[at] == " ":
            at += 1
        else:
            kind, end = token_at(line, at)
            found.append((kind, line[at:end]))
            at = end
    return found


def token_at(line, at):
    """The kind of the token that begins at an index, and the index behind it."""
    end = run_end(line, at, "a", "z")
    if end > at:
        return ("word" if end - at <= LONGEST_WORD else "bad", end)
    end = run_end(line, at, "0", "9")
    if end > at:
        return ("number" if is_number(line[at:end]) else "bad", end)
    if line[at] == "-":
        end = run_end(line, at + 1, "0", "9")
        digits = line[at + 1:end]
        # A sign that no number takes is bad on its own: the digits behind it are their own token.
        if is_number(digits) and digits != "0":
            return ("number", end)
    return ("bad", at + 1)


def run_end(line, at, low, high):
    """The index behind the run of characters from low to high that begins at an index."""
    end = at
    while end < len(line) and low <= line[end] <= high:
        end += 1
    return end


def is_number(digits):
    """Whether a run of digits, which may be empty, is a number."""
    if digits == "0":
        return True
    return 1 <= len(digits) <= LONGEST_NUMBER and digits[0] != "0"
