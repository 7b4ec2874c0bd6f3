"""[46]: texts, and the first sign at which none goes on; with [4], [7], [10]."""

import re
import unittest

from tests.samples import D, F, LETTERS, ODD_VALUES, S, W, chain, doubled, plain_text, raised_by, small_bushes, wide
from tipwoods.bushtexts import bush_text, read_bush, read_row, row_text
from tipwoods.errors import InvalidText

BIG = wide(400)
DEEP = chain(60)
SIGNS = "afsz()., -A`{0~\n\""


def is_text(text):
    """Whether a string is the text of a bush that can be handed in, told without reading it."""
    depth = most = 0
    for sign in text:
        depth += (sign == "(") - (sign == ")")
        most = max(most, depth)
    if most > 60 or text.count(".") + text.count("(") > 400:
        return False
    while len(text) > 1:
        shorter = re.sub(r"[a-z]\(\.{1,6}\)", ".", text)
        if shorter == text:
            return False
        text = shorter
    return text == "."


def can_go_on(text):
    """Whether some text of a bush begins so: whether the shortest one that could does."""
    if re.search(r"[a-z]\Z", text):
        text += "("
    if text == "" or text[-1] == "(":
        text += "."
    return is_text(text + ")" * (text.count("(") - text.count(")")))


def can_row_go_on(text):
    if text == "-":
        return True
    *whole, last = text.split(" ")
    return len(whole) < 12 and all(is_text(word) for word in whole) and can_go_on(last)


def is_row_text(text):
    return text == "-" or text.count(" ") < 12 and all(is_text(word) for word in text.split(" "))


def expected_at(text, goes_on, is_whole):
    """The index that is told of a text, None if it is whole."""
    if is_whole(text):
        return None
    # If none goes on at a sign, none does behind it: so one can halve.
    low, high = 0, len(text) + 1
    while low < high:
        middle = (low + high) // 2
        if middle <= len(text) and goes_on(text[:middle]):
            low = middle + 1
        else:
            high = middle
    return min(low - 1, len(text))


class WriteTest(unittest.TestCase):
    def test_examples(self):
        bush = ("f", S, F)
        self.assertEqual([bush_text(bush), row_text((F, ())), row_text(())], ["f(s(.)f(..))", "f(..) .", "-"])
        self.assertEqual([read_bush("f(s(.)f(..))") == bush, read_row("f(..) ."), read_row("-")],
                         [True, (("f", (), ()), ()), ()])

    def test_texts_of_bushes(self):
        for bush in small_bushes(3) + [BIG, DEEP, D, ("z",) + ((),) * 6]:
            self.assertEqual(bush_text(bush), plain_text(bush))
            self.assertTrue(is_text(bush_text(bush)))
            self.assertEqual(read_bush(plain_text(bush)), bush)

    def test_texts_of_rows(self):
        for row in ((), ((),), (S,), (F, S, W), ((),) * 12, (BIG,) * 5, (DEEP,) * 12, (F,) * 12, (F, (), ())):
            text = " ".join(plain_text(growth) for growth in row) or "-"
            self.assertEqual(row_text(row), text)
            self.assertEqual(read_row(text), row)

    def test_what_is_read_is_tuples(self):
        self.assertIs(type(read_bush(".")), tuple)
        self.assertIs(type(read_bush("f(s(.))")[1]), tuple)
        self.assertIs(type(read_row("-")), tuple)


class ReadTest(unittest.TestCase):
    def assert_told(self, text):
        for read, goes_on, is_whole in ((read_bush, can_go_on, is_text), (read_row, can_row_go_on, is_row_text)):
            error = raised_by(read, text)
            at = expected_at(text, goes_on, is_whole)
            if at is None:
                self.assertIsNone(error, text)
            else:
                self.assertIs(type(error), InvalidText, text)
                self.assertEqual((error.at, type(error.at)), (at, int), (read.__name__, text))

    def assert_at(self, read, text, at):
        error = raised_by(read, text)
        self.assertIs(type(error), InvalidText, text)
        self.assertEqual(error.at, at, text)

    def test_examples(self):
        self.assert_at(read_bush, "f(.s)", 4)
        self.assert_at(read_bush, "f()", 2)

    def test_told_by_hand(self):
        for text, at in [
            ("", 0), (")", 0), ("(", 0), (" ", 0), ("F(.)", 0), ("f", 1), ("f.", 1), ("ff", 1), ("f(", 2), ("f((", 2),
            ("f(.", 3), ("f(.)", None), ("f(.))", 4), ("f(.).", 4), ("f(.) ", 4), ("..", 1), ("f(......)", None),
            ("f(.......)", 8), ("f(......s(.))", 8), ("f(......", 8), ("f(.....s(.)", 11), ("f(.....s(.).", 11),
            ("-", 0), ("f(-)", 2), ("f( .)", 2), ("f(. .)", 3), (".\n", 1),
        ]:
            if at is None:
                self.assertIsNone(raised_by(read_bush, text), text)
            else:
                self.assert_at(read_bush, text, at)
        for text, at in [
            ("", 0), ("--", 1), ("- ", 1), ("-.", 1), (". ", 2), (".  .", 2), (" .", 0), (". -", 2), (". f", 3),
            ("f(.) f()", 7), (". . f(..)s", 9), (". .)", 3),
        ]:
            self.assert_at(read_row, text, at)

    def test_no_strings(self):
        for value in ODD_VALUES + [(), F, ("f(..)",), ["f(..)"]]:
            if not isinstance(value, str):
                self.assert_at(read_bush, value, 0)
                self.assert_at(read_row, value, 0)

    def test_each_sign_at_each_place(self):
        texts = [".", "f(.)", "f(s(.)f(..))", "a(......)", "z(b(.)......)", "f(f(f(...))s(.).)"]
        texts += ["-", ". . .", "f(..) . s(.)"]
        for text in texts:
            for at in range(len(text) + 1):
                self.assert_told(text[:at])
                for sign in SIGNS:
                    self.assert_told(text[:at] + sign)
                    self.assert_told(text[:at] + sign + text[at:])
                    self.assert_told(text[:at] + sign + text[at + 1:])

    def test_all_short_texts(self):
        texts = [""]
        for _ in range(6):
            texts = [text + sign for text in texts for sign in "f(). -"]
            for text in texts[:: 1 + len(texts) // 4000]:
                self.assert_told(text)

    def test_all_letters(self):
        for sign in map(chr, range(32, 127)):
            self.assert_told(sign + "(.)")
            self.assert_told("f(" + sign + "(.))")
        for letter in LETTERS:
            self.assertEqual(read_bush(letter + "(.)"), (letter, ()))

    def test_the_depth(self):
        for many in (58, 59, 60, 61, 62):
            text = "s(" * many + "." + ")" * many
            self.assert_told(text)
            self.assert_told("s(" * many)
            self.assert_told("s(" * many + ")")
            self.assert_told("f(." + text + ".)")
            self.assert_told(text + " " + text)
        self.assert_at(read_bush, "s(" * 61, 120)
        self.assert_at(read_bush, "s(" * 60 + "s", 120)
        self.assert_at(read_bush, "s(" * 60, 120)
        self.assert_at(read_bush, "f(." + "s(" * 60, 3 + 118)
        self.assertEqual(read_bush("s(" * 60 + "." + ")" * 60), DEEP)

    def test_the_parts(self):
        for parts in (397, 398, 399, 400, 401, 402):
            self.assert_told(plain_text(wide(parts)))
            self.assert_told("f(" + plain_text(wide(parts)) + ".")
        self.assert_told("d" + plain_text(doubled(8))[1:])
        text = plain_text(wide(393))
        # A knot of 393 parts in one with four more: 398 with the outer knot, so two parts are left.
        head = "f(" + text + "...."
        self.assert_at(read_bush, head + ".s", len(head) + 1)
        self.assert_at(read_bush, head + "s(..", len(head) + 3)
        self.assert_at(read_bush, head + "s(.).", len(head) + 4)
        self.assert_at(read_bush, head + "s(s", len(head) + 2)
        self.assert_at(read_bush, head + "s", len(head) + 1)
        self.assertEqual(read_bush(head + "s(.))"), ("f", wide(393), (), (), (), (), S))
        for tail in ("s", "s(", "s()", "s(.", "s(s", "s(..", ".", "..", ".s", ")", "", ".)", "s(.)", "s(.).", "s(.))"):
            self.assert_told(head + tail)
            self.assert_told("f(.) " + head + tail)

    def test_each_place_of_a_great_text(self):
        text = plain_text(BIG)
        for at in range(0, len(text), 7):
            for sign in ".s()- ":
                self.assert_told(text[:at] + sign + text[at:])

    def test_the_growths_of_a_row(self):
        for many in (11, 12, 13):
            for word in (".", "f(..)"):
                text = " ".join([word] * many)
                self.assert_told(text)
                self.assert_told(text + " ")
                self.assert_told(text + "-")
        self.assert_at(read_row, " ".join(["."] * 13), 23)
        self.assert_at(read_row, " ".join(["."] * 12) + " ", 23)
        self.assert_at(read_row, " ".join(["."] * 11) + " ", 22)

    def test_the_longest_strings(self):
        for sign in "a(). -~":
            self.assert_told(sign * 4000)
        self.assert_told("s(" * 2000)
