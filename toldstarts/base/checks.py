"""What integers, words, and rows of digits and letters are, and other small helpers of all files."""

MAX_WORD = 8
MAX_NAME = 12
MAX_JOB_NUMBER = 1000000
TOO_LONG = 10 ** 60


def is_whole(value):
    """Whether the value is an integer that may be passed: one of at most sixty digits."""
    return isinstance(value, int) and not isinstance(value, bool) and abs(value) < TOO_LONG


def is_between(value, low, high):
    """Whether the value is an integer from `low` to `high`, which have at most sixty digits themselves."""
    return isinstance(value, int) and not isinstance(value, bool) and low <= value <= high


def is_job_number(value):
    """Whether the value is the number of a job."""
    return is_between(value, 1, MAX_JOB_NUMBER)


def is_ascending(values):
    """Whether each of some values that can be compared is greater than the one ahead of it."""
    return all([one < other for one, other in zip(values, values[1:])])


def is_same(value, wanted):
    """Whether a value is just a wanted one, of tuples, integers, strings and the like, without True as a 1."""
    if not isinstance(wanted, tuple):
        return isinstance(value, bool) == isinstance(wanted, bool) and value == wanted
    if not isinstance(value, tuple) or len(value) != len(wanted):
        return False
    return all([is_same(one, other) for one, other in zip(value, wanted)])


def place_of(values, value):
    """The place of the last one of ascending values that is not above a value; the first one never is."""
    low, high = 0, len(values)
    while high - low > 1:
        middle = (low + high) // 2
        if values[middle] <= value:
            low = middle
        else:
            high = middle
    return low


def without_key(rows, key):
    """A copy of a dict without a key."""
    return {one: rows[one] for one in rows if one != key}


def is_letter(sign):
    """Whether a sign, or nothing at all, is a letter of names."""
    return "a" <= sign <= "z"


def is_digit(sign):
    """Whether a sign, or nothing at all, is a decimal digit."""
    return "0" <= sign <= "9"


def digits_end(text, begin, most):
    """The index behind the digits that begin at an index, of which up to `most` count."""
    end = begin
    while end - begin < most and is_digit(text[end:end + 1]):
        end = end + 1
    return end


def blanks_end(text, begin):
    """The index behind the blanks that begin at an index, if there are any."""
    end = begin
    while text[end:end + 1] == " ":
        end = end + 1
    return end


def word_end(text, begin):
    """The index behind the letters that begin at an index, as many as a word can have."""
    end = begin
    while end - begin < MAX_WORD and is_letter(text[end:end + 1]):
        end = end + 1
    return end


def is_word(value):
    """Whether the value is a word: one to eight letters."""
    return (isinstance(value, str) and 1 <= len(value) <= MAX_WORD and value.isascii() and value.isalpha()
            and value.islower())


def is_short_name(value, most):
    """Whether the value has one to `most` letters and digits, with a letter first."""
    if not isinstance(value, str) or not 1 <= len(value) <= most:
        return False
    return value.isascii() and value.isalnum() and value.islower() and value[0].isalpha()


def is_name(value):
    """Whether the value is a name."""
    return is_short_name(value, MAX_NAME)

