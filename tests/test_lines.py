"""Point [46]: lines."""

import random
import unittest

from tests.support import HUGE, assert_raises_only
from toldwhensure.lines import Line

LETTERS = (
    ("read", "a", 1, 0, 3, 4), ("read", "a", 1, 1, 3, None), ("close", "a", 1, 9, 2), ("clock", "b", -1, 1),
    ("read", "b", HUGE, 0, -HUGE, HUGE),
)


class Lines(unittest.TestCase):
    def line_with(self, letters):
        line = Line()
        line.send(letters)
        return line

    def test_a_new_one(self):
        self.assertEqual(Line().waiting(), ())

    def test_send(self):
        for kind in (list, tuple):
            line = Line()
            self.assertIsNone(line.send(kind(LETTERS[:2])))
            self.assertEqual(line.waiting(), LETTERS[:2])
            line.send(kind(LETTERS[1:]))
            self.assertEqual(line.waiting(), LETTERS[:2] + LETTERS[1:])
            self.assertIs(line.waiting().__class__, tuple)

    def test_send_no_letters(self):
        for nothing in ([], ()):
            line = Line()
            line.send(nothing)
            self.assertEqual(line.waiting(), ())
            line.send(LETTERS)
            line.send(nothing)
            self.assertEqual(line.waiting(), LETTERS)

    def test_a_list_that_is_changed_afterwards(self):
        letters = list(LETTERS)
        line = self.line_with(letters)
        self.assertEqual(letters, list(LETTERS))
        letters.clear()
        self.assertEqual(line.waiting(), LETTERS)
        line.lose(0)
        line.double(0)
        self.assertEqual(letters, [])

    def test_send_what_waits(self):
        line = self.line_with(LETTERS)
        line.send(line.waiting())
        self.assertEqual(line.waiting(), LETTERS * 2)

    def test_deliver(self):
        for index in range(len(LETTERS)):
            line = self.line_with(LETTERS)
            self.assertEqual(line.deliver(index), LETTERS[index])
            self.assertEqual(line.waiting(), LETTERS[:index] + LETTERS[index + 1:])
        line = self.line_with(LETTERS)
        self.assertEqual([line.deliver(0) for _ in LETTERS], list(LETTERS))
        self.assertEqual(line.waiting(), ())

    def test_lose(self):
        for index in range(len(LETTERS)):
            line = self.line_with(LETTERS)
            self.assertIsNone(line.lose(index))
            self.assertEqual(line.waiting(), LETTERS[:index] + LETTERS[index + 1:])

    def test_double(self):
        for index in range(len(LETTERS)):
            line = self.line_with(LETTERS)
            self.assertIsNone(line.double(index))
            self.assertEqual(line.waiting(), LETTERS + (LETTERS[index],))
            line.double(len(LETTERS))
            self.assertEqual(line.waiting(), LETTERS + (LETTERS[index],) * 2)
            # The one that was doubled leaves the line alone.
            line.lose(index)
            self.assertEqual(line.waiting(), LETTERS[:index] + LETTERS[index + 1:] + (LETTERS[index],) * 2)

    def test_no_letter(self):
        for letters in (LETTERS, LETTERS[:1], ()):
            line = self.line_with(letters)
            for index in (-1, len(letters), len(letters) + 1, -len(letters) - 1, HUGE, -HUGE):
                for call in (line.deliver, line.lose, line.double):
                    assert_raises_only(self, "NoLetter", call, index)
                    self.assertEqual(line.waiting(), letters)

    def test_results_stay_as_they_are(self):
        line = self.line_with(LETTERS)
        before = line.waiting()
        line.lose(0)
        line.double(0)
        line.send(LETTERS)
        self.assertEqual(before, LETTERS)

    def test_two_lines_do_not_touch_each_other(self):
        one, other = self.line_with(LETTERS), self.line_with(LETTERS)
        one.lose(0)
        other.double(1)
        Line().send(LETTERS)
        self.assertEqual(one.waiting(), LETTERS[1:])
        self.assertEqual(other.waiting(), LETTERS + LETTERS[1:2])

    def test_many_letters(self):
        choices = random.Random(17)
        line, letters = Line(), []
        for number in range(3000):
            more = [("read", "a", number + 1, 0, number, 1)] * choices.randint(1, 2)
            line.send(more)
            letters += more
            index = choices.randrange(len(letters))
            deed = choices.randrange(3)
            if deed == 0:
                self.assertEqual(line.deliver(index), letters.pop(index))
            elif deed == 1:
                line.lose(index)
                letters.pop(index)
            else:
                line.double(index)
                letters.append(letters[index])
        self.assertEqual(line.waiting(), tuple(letters))
