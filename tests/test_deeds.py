"""Deeds and logs as texts: [14.1]."""

import random
import unittest

import language
import made
from test_texts import place_of
from toldreasons.deeds import deed_text, log_text, read_deed, read_log
from toldreasons.errors import BadText

SIGNS = " \n-,.0123459aegikrstx\tS~"

DEEDS = {
    ("strike", 0, 2): "strike 0 2",
    ("raise", 3, 1): "raise 3 1",
    ("set", 5, 12): "set 5 12",
    ("set", 15, 99): "set 15 99",
    ("raise", 999999999, 0): "raise 999999999 0",
    ("strike", 0, 123456789): "strike 0 123456789",
}
LOGS = {
    (): "",
    (("set", 0, 2),): "set 0 2",
    (("set", 0, 2), ("strike", 0, 2), ("raise", 10, 20)): "set 0 2\nstrike 0 2\nraise 10 20",
    tuple(DEEDS): "\n".join(DEEDS.values()),
}


def spoiled(text):
    """The text cut short, and with a sign put in, left out, exchanged, at each place."""
    for at in range(len(text) + 1):
        yield text[:at]
        for sign in SIGNS:
            yield text[:at] + sign + text[at:]
            yield text[:at] + sign + text[at + 1:]
        yield text[:at] + text[at + 1:]
        yield text[:at] + text[at:at + 1] * 2 + text[at + 1:]


class DeedTextTest(unittest.TestCase):
    def test_written_and_read(self):
        for deed, text in DEEDS.items():
            self.assertEqual(deed_text(deed), text)
            self.assertEqual(read_deed(text), deed)

    def test_logs_written_and_read(self):
        for deeds, text in LOGS.items():
            self.assertEqual(log_text(deeds), text)
            self.assertEqual(read_log(text), deeds)
        dice = random.Random(601)
        for _ in range(30):
            deeds = tuple(
                (dice.choice(("strike", "raise", "set")), dice.randrange(16), dice.randrange(100)) for _ in range(dice.randint(0, 60))
            )
            self.assertEqual(read_log(log_text(deeds)), deeds)

    def test_places(self):
        for text, place in {
            "": 0, "x": 0, " strike 0 2": 0, "s": 1, "st": 2, "se": 2, "sa": 1, "strive 0 2": 4, "strike": 6, "strike ": 7, "strikes 0 2": 6,
            "set 0": 5, "set 0 ": 6, "set 0 2 ": 7, "set 0 2 3": 7, "set 0  2": 6, "set  0 2": 4, "set 00 2": 5, "set 0 02": 7, "set -0 2": 4,
            "set 0 -2": 6, "set +1 2": 4, "set 1234567890 2": 13, "set 0 1234567890": 15, "set 0 2\n": 7, "raise 0,1": 7, "Raise 0 1": 0,
            "raise\t0 1": 5, "raised 0 1": 5, "set 1 2\nset 1 3": 7, "set . 2": 4, "undo": 0, "s 0 2": 1, "set 0 2.": 7,
        }.items():
            self.assertEqual(place_of(read_deed, text), place, repr(text))
        for text, place in {
            "\n": 0, "set 0 2\n": 8, "set 0 2\n\n": 8, "\nset 0 2": 0, "set 0 2\nset 0 x": 14, "set 0 2\nstrive 0 2": 12, "set 0 2\n set 0 1": 8,
            "set 0 2 \nset 0 1": 7, "set 0 2\r\nset 0 1": 7, "set 0 2\nset 00 1": 13, "set 0 2\nset 0 1\nraise": 21, "set 0 2, set 0 1": 7, " ": 0, "x": 0,
        }.items():
            self.assertEqual(place_of(read_log, text), place, repr(text))
        self.assertIsNone(place_of(read_log, ""))

    def test_spoiled_texts(self):
        for read, write, place, texts in (
            (read_deed, deed_text, language.DEED.place, DEEDS.values()), (read_log, log_text, language.LOG.place, LOGS.values()),
        ):
            for text in texts:
                for wrong in spoiled(text):
                    expected = place(wrong)
                    self.assertEqual(place_of(read, wrong), expected, repr(wrong))
                    if expected is None:
                        self.assertEqual(write(read(wrong)), wrong)

    def test_no_texts(self):
        for value in made.STRANGE + made.DEEP + (["set 0 2"], ("set", 0, 2), (("set", 0, 2),), {"set 0 2": 1}, ["set 0 2", "set 0 1"], b"", b"set 0 2"):
            text = value if isinstance(value, str) else "x"
            self.assertEqual(place_of(read_deed, value), language.DEED.place(text), value)
            self.assertEqual(place_of(read_log, value), language.LOG.place(text), value)
        for value in (None, (), [], {}, 0, False):
            self.assertEqual((place_of(read_deed, value), place_of(read_log, value)), (0, 0))

    def test_the_error(self):
        with self.assertRaises(BadText) as caught:
            read_log("set 0 2\nset")
        self.assertEqual(vars(caught.exception), {"place": 11})

    def test_long_texts(self):
        deeds = (("set", 0, 1), ("raise", 0, 2)) * 300
        self.assertEqual(read_log(log_text(deeds)), deeds)
        self.assertEqual(place_of(read_log, log_text(deeds) + " "), len(log_text(deeds)))
        self.assertEqual(place_of(read_log, "~" * 8000), 0)


if __name__ == "__main__":
    unittest.main()
