"""What integers, words, and rows of digits and letters are, for all other files."""

MAX_WORD = 8


def is_whole(value):
    """Whether the value is an integer that may be passed: one of at most sixty digits."""
    return isinstance(value, int) and not isinstance(value, bool) and abs(value) < 10 ** 60


def is_between(value, low, high):
    """Whether the value is an integer from `low` to `high`."""
    return is_whole(value) and low <= value <= high


def is_ascending(values):
    """Whether each of some values that can be compared is greater than the one ahead of it."""
    return all([one < other for one, other in zip(values, values[1:])])


def is_letter(sign):
    """Whether a sign, or nothing at all, is a letter of names."""
    return "a" <= sign <= "z"


def is_digit(sign):
    """Whether a sign, or nothing at all, is a decimal digit."""
    return "0" <= sign <= "9"


def digits_end(text, begin, most):
    """The index behind the digits that begin at an index, of which up to `most` count."""
    end = begin
    while end - begin < most and is_digit(text[end:end + 1]):
        end = end + 1
    return end


def word_end(text, begin):
    """The index behind the letters that begin at an index, as many as a word can have."""
    end = begin
    while end - begin < MAX_WORD and is_letter(text[end:end + 1]):
        end = end + 1
    return end


def is_word(value):
    """Whether the value is a word: one to eight letters."""
    if not isinstance(value, str) or not 1 <= len(value) <= MAX_WORD:
        return False
    return all([is_letter(sign) for sign in value])


def is_short_name(value, most):
    """Whether the value has one to `most` letters and digits, with a letter first."""
    if not isinstance(value, str) or not 1 <= len(value) <= most or not is_letter(value[0]):
        return False
    return all([is_letter(sign) or is_digit(sign) for sign in value])
