"""Points 0.1, 0.8, 1.1 and 1.2: ticks and their texts."""

import itertools
import re

from toldstarts.base import ticks
from toldstarts.base.ticks import is_tick, text_of_ticks, ticks_of
from toldstarts.errors import InvalidTick
from helper import Case, ODD

FORM = re.compile(r"(\d{1,7})(?:(-)(\d{1,2})(?::(\d{1,2}))?(?::(\d{1,2}))?|(?::(\d{1,2}))?(?::(\d{1,2}))?)", re.ASCII)


def worth(text):
    """The ticks of a text of the right form, by another way: fields are filled up from the known side."""
    if "-" in text:
        days, rest = text.split("-")
        fields = [int(part) for part in rest.split(":")] + [0, 0]
        return int(days) * 86400 + fields[0] * 3600 + fields[1] * 60 + fields[2]
    fields = [int(part) for part in text.split(":")]
    if len(fields) == 1:
        return fields[0] * 60
    return sum([one * unit for one, unit in zip(reversed(fields), (1, 60, 3600))])


class Ticks(Case):
    def test_constant(self):
        self.assertEqual(ticks.MAX_TICK, 1000000)

    def test_is_tick(self):
        for value in (0, 1, 999999, 1000000):
            self.assertIs(is_tick(value), True)
        for value in (-1, 1000001, 10 ** 60, True, False, None, "1", 1.0, (1,), [1]):
            self.assertIs(is_tick(value), False)
        for value in ODD:
            self.assertIn(is_tick(value), (True, False))

    def test_text_of_ticks(self):
        for number, text in ((0, "00:00:00"), (59, "00:00:59"), (60, "00:01:00"), (3599, "00:59:59"),
                             (3600, "01:00:00"), (86399, "23:59:59"), (86400, "1-00:00:00"), (93784, "1-02:03:04"),
                             (864000, "10-00:00:00"), (1000000, "11-13:46:40")):
            self.assertEqual(text_of_ticks(number), text)

    def test_text_of_no_tick(self):
        for value in ODD + (1000001, -1):
            if not is_tick(value):
                self.refused(InvalidTick, text_of_ticks, value)

    def test_forms(self):
        for text, number in (("90", 5400), ("1:05", 65), ("2-3", 183600), ("0", 0), ("0000001", 60), ("1:2:3", 3723),
                             ("01:02:03", 3723), ("1-2:3", 93780), ("1-2:3:4", 93784), ("001-02:03:04", 93784),
                             ("16666:40", 1000000), ("277:46:40", 1000000), ("11-13:46:40", 1000000), ("0-0", 0),
                             ("0-23:59:59", 86399), ("16666", 999960), ("0:0:59", 59)):
            self.assertEqual(ticks_of(text), number, text)

    def test_texts_of_all_lengths_of_days_are_read(self):
        for number in list(range(0, 200000, 997)) + list(range(999000, 1000001)):
            self.assertEqual(ticks_of(text_of_ticks(number)), number)

    def test_no_string(self):
        for value in ODD:
            if not isinstance(value, str):
                self.wrong_at(None, ticks_of, value)

    def test_wrong_signs(self):
        for text, spot in (("", 0), ("x", 0), (" 1", 0), ("1 ", 1), ("-1", 0), (":1", 0), ("1:", 2), ("1-", 2),
                           ("1--2", 2), ("1:2:", 4), ("1:2:3:", 5), ("1:2:3:4", 5), ("1:2-3", 3), ("1-2-3", 3),
                           ("1-2:3:4:", 7), ("1-2:3:4:5", 7), ("1-2:3:4-", 7), ("12345678", 7), ("1:123", 4),
                           ("1-123", 4), ("1:2:345", 6), ("1-2:345", 6), ("1-2:3:456", 8), ("1.5", 1), ("+1", 0),
                           ("1:+2", 2), ("1\n", 1), ("1:2\n", 3), ("0x1", 1), ("1_0", 1)):
            self.wrong_at(spot, ticks_of, text)

    def test_numbers_that_are_too_great(self):
        for text, spot in (("1:60", 2), ("1:59:60", 5), ("1:60:60", 2), ("1:99:1", 2), ("1-24", 2), ("1-24:60", 2),
                           ("1-23:60", 5), ("1-23:59:60", 8), ("0012-23:60:60", 8), ("9999999:60", 8)):
            self.wrong_at(spot, ticks_of, text)
        self.assertEqual(ticks_of("1:59:59"), 7199)

    def test_too_many_ticks(self):
        for text in ("16667", "16666:41", "277:46:41", "11-13:46:41", "12-0", "11-14", "9999999", "9999999-0",
                     "9999999:59:59", "0016667"):
            self.wrong_at(len(text), ticks_of, text)

    def test_the_form_comes_ahead_of_the_numbers(self):
        self.wrong_at(6, ticks_of, "1:60:1x")
        self.wrong_at(7, ticks_of, "9999999x")

    def test_all_short_texts(self):
        signs = "07:- "
        good = [text for size in range(1, 7) for text in map("".join, itertools.product(signs[:4], repeat=size))
                if FORM.fullmatch(text)]
        ahead = {text[:size] for text in good for size in range(len(text) + 1)}
        for size in range(6):
            for text in map("".join, itertools.product(signs, repeat=size)):
                bad = [at for at in range(size) if text[:at + 1] not in ahead]
                if FORM.fullmatch(text) is None:
                    self.wrong_at(bad[0] if bad else size, ticks_of, text)
                    continue
                rest = re.split("[:-]", text)[1:]
                most = [24 if "-" in text and at == 0 else 60 for at in range(len(rest))]
                if all([int(part) < bound for part, bound in zip(rest, most)]) and worth(text) <= 1000000:
                    self.assertEqual(ticks_of(text), worth(text), text)
