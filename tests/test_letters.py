"""Points [10], [11] and [13]: which letters are valid, and the written form of a bag."""

import copy
import unittest

from toldwhensure.letters import check_letter, read_bag, write_bag
from tests.support import HUGE, assert_raises_only, error_of

PLAN = (10, (("a", 0, 5, 1), ("ab", -3, 9, 0), ("pump", 2, 2, 60)))
SIXTY = 10 ** 59 + 7
SIXTY_ONE = 10 ** 60 + 7

GOOD = (
    ("read", "a", 2, 1, 17, None),
    ("read", "ab", 1, 0, -4, -3),
    ("close", "a", 4, 15, 6),
    ("close", "pump", 0, -1, 0),
    ("clock", "a", -1, 0),
)
GOOD_LINES = (
    "read a slot 2 version 1 at 17 is void",
    "read ab slot 1 version 0 at -4 is -3",
    "close a after 4 at 15 with 6",
    "close pump after 0 at -1 with 0",
    "clock a from -1 to 0",
)

# Each place of an integer in a line, the place being where the braces stand.
ALL_PLACES = (
    "read a slot {} version 1 at 17 is 4",
    "read a slot 2 version {} at 17 is 4",
    "read a slot 2 version 1 at {} is 4",
    "read a slot 2 version 1 at 17 is {}",
    "close a after {} at 15 with 6",
    "close a after 4 at {} with 6",
    "close a after 4 at 15 with {}",
    "clock a from {} to 3",
    "clock a from -3 to {}",
)
FROM_ONE = ALL_PLACES[:1]
FROM_ZERO = (ALL_PLACES[1], ALL_PLACES[4], ALL_PLACES[6])
ANY_INTEGER = (ALL_PLACES[2], ALL_PLACES[3], ALL_PLACES[5], ALL_PLACES[7], ALL_PLACES[8])


class ValidLetters(unittest.TestCase):
    def assert_valid(self, letter):
        self.assertIsNone(check_letter(PLAN, letter))

    def test_each_kind_for_each_name(self):
        for name in ("a", "ab", "pump"):
            self.assert_valid(("read", name, 1, 0, 3, 4))
            self.assert_valid(("read", name, 2, 1, 3, None))
            self.assert_valid(("close", name, 4, 15, 6))
            self.assert_valid(("clock", name, -1, 0))

    def test_least_numbers(self):
        self.assert_valid(("read", "a", 1, 0, -1, -1))
        self.assert_valid(("close", "a", 0, -1, 0))
        self.assert_valid(("clock", "a", -1, -1))

    def test_letters_that_can_not_be_true(self):
        self.assert_valid(("read", "a", 1, 0, 3, 6))
        self.assert_valid(("read", "a", 1, 0, 3, -1))
        self.assert_valid(("read", "a", 1, 0, 3, None))
        self.assert_valid(("close", "a", 0, 3, 5))
        self.assert_valid(("close", "a", 5, 3, 0))
        self.assert_valid(("clock", "a", 2, -2))
        self.assert_valid(("clock", "a", 50, 60))

    def test_very_large_numbers(self):
        self.assert_valid(("read", "a", HUGE, HUGE, HUGE, HUGE))
        self.assert_valid(("read", "a", HUGE, HUGE, -HUGE, -HUGE))
        self.assert_valid(("close", "a", HUGE, HUGE, HUGE))
        self.assert_valid(("close", "a", HUGE, -HUGE, HUGE))
        self.assert_valid(("clock", "a", HUGE, -HUGE))


class InvalidLetters(unittest.TestCase):
    def assert_invalid(self, letter):
        assert_raises_only(self, "InvalidLetter", check_letter, PLAN, letter)

    def test_names_that_no_meter_has(self):
        for name in ("", " ", "b", "aa", "abb", "A", "AB", "pum", "pumps", "PUMP", "a ", " a",
                     "a1", "a\n", "p-mp", "read", "aab", "pump" * 40):
            with self.subTest(name):
                self.assert_invalid(("read", name, 1, 0, 3, 4))
                self.assert_invalid(("close", name, 4, 15, 6))
                self.assert_invalid(("clock", name, -1, 0))

    def test_names_of_another_plan(self):
        letter = ("clock", "ab", -1, 0)
        for _ in range(2):
            self.assertIsNone(check_letter(PLAN, letter))
            assert_raises_only(self, "InvalidLetter", check_letter, (10, (("a", 0, 5, 1),)), letter)

    def test_slot_below_one(self):
        for slot in (0, -1, -HUGE):
            self.assert_invalid(("read", "a", slot, 0, 3, 4))
            self.assert_invalid(("read", "a", slot, 0, 3, None))

    def test_negative_version(self):
        for version in (-1, -2, -HUGE):
            self.assert_invalid(("read", "a", 1, version, 3, 4))

    def test_negative_number_of_slots(self):
        for slots in (-1, -2, -HUGE):
            self.assert_invalid(("close", "a", slots, 15, 6))

    def test_negative_number_of_versions(self):
        for versions in (-1, -2, -HUGE):
            self.assert_invalid(("close", "a", 4, 15, versions))

    def test_huge_numbers_beside_the_fault(self):
        self.assert_invalid(("read", "b", HUGE, HUGE, HUGE, HUGE))
        self.assert_invalid(("close", "b", HUGE, HUGE, HUGE))
        self.assert_invalid(("clock", "b", HUGE, HUGE))


class Writing(unittest.TestCase):
    def test_the_example(self):
        text = write_bag([("read", "a", 2, 1, 17, None), ("clock", "a", -1, 0)])
        self.assertEqual(text, "read a slot 2 version 1 at 17 is void\nclock a from -1 to 0\n")

    def test_each_kind_in_the_order_of_the_bag(self):
        self.assertEqual(write_bag(GOOD), "".join(line + "\n" for line in GOOD_LINES))
        self.assertEqual(write_bag(GOOD[::-1]), "".join(line + "\n" for line in GOOD_LINES[::-1]))

    def test_one_letter(self):
        for letter, line in zip(GOOD, GOOD_LINES):
            self.assertEqual(write_bag((letter,)), line + "\n")

    def test_empty_bags(self):
        self.assertEqual(write_bag(()), "")
        self.assertEqual(write_bag([]), "")

    def test_a_value_of_zero_is_not_void(self):
        self.assertEqual(write_bag([("read", "a", 1, 0, 0, 0)]), "read a slot 1 version 0 at 0 is 0\n")

    def test_sixty_digits(self):
        low = "-1" + "0" * 58 + "7"
        high = "1" + "0" * 58 + "7"
        self.assertEqual(write_bag([("clock", "a", -SIXTY, SIXTY)]), f"clock a from {low} to {high}\n")
        self.assertEqual(
            write_bag([("read", "a", SIXTY, SIXTY, -SIXTY, SIXTY)]),
            f"read a slot {high} version {high} at {low} is {high}\n",
        )
        self.assertEqual(
            write_bag([("close", "a", SIXTY, -SIXTY, SIXTY)]),
            f"close a after {high} at {low} with {high}\n",
        )

    def test_a_list_stays_as_it_was(self):
        letters = list(GOOD)
        before = copy.deepcopy(letters)
        self.assertEqual(write_bag(letters), write_bag(tuple(letters)))
        self.assertEqual(letters, before)

    def test_a_letter_twice(self):
        letter = ("clock", "a", -1, 0)
        self.assertEqual(write_bag([letter, letter]), "clock a from -1 to 0\n" * 2)


class Reading(unittest.TestCase):
    def assert_comes_back(self, plan, letters):
        found = read_bag(plan, write_bag(letters))
        self.assertEqual(found, tuple(letters))
        self.assertIsInstance(found, tuple)
        for letter in found:
            self.assertIsInstance(letter, tuple)

    def test_what_was_written(self):
        self.assert_comes_back(PLAN, GOOD)
        self.assert_comes_back(PLAN, list(GOOD))
        self.assert_comes_back(PLAN, GOOD[::-1])
        self.assert_comes_back(PLAN, GOOD + GOOD[:2] + GOOD)
        for letter in GOOD:
            self.assert_comes_back(PLAN, (letter,))

    def test_letters_that_can_not_be_true(self):
        self.assert_comes_back(PLAN, (
            ("read", "a", 1, 0, 3, None), ("read", "a", 1, 0, 4, 99), ("read", "a", 1, 0, 4, -99),
            ("close", "a", 0, 3, 5), ("clock", "a", 7, -7),
        ))

    def test_numbers_of_any_sign_and_of_sixty_digits(self):
        for number in (0, 1, 9, 10, 100, SIXTY, 10 ** 60 - 1, 10 ** 59):
            self.assert_comes_back(PLAN, (
                ("read", "a", number + 1 - number // 2, number, -number, number),
                ("read", "a", 1, number, number, -number),
                ("close", "a", number, number, number), ("close", "a", number, -number, number),
                ("clock", "a", number, -number), ("clock", "a", -number, number),
            ))

    def test_the_empty_text(self):
        self.assertEqual(read_bag(PLAN, ""), ())
        self.assertIsInstance(read_bag(PLAN, ""), tuple)

    def test_many_letters(self):
        self.assert_comes_back(PLAN, GOOD * 400)

    def test_names_that_are_words_of_the_form(self):
        names = sorted((
            "read", "slot", "version", "at", "is", "void", "close", "after", "with", "clock", "from", "to",
        ))
        plan = (10, tuple((name, 0, 5, 0) for name in names))
        for name in names:
            self.assert_comes_back(plan, (
                ("read", name, 1, 0, 3, 4), ("read", name, 1, 1, 3, None),
                ("close", name, 4, 15, 6), ("clock", name, -1, 0),
            ))

    def test_names_of_one_plan_only(self):
        for _ in range(2):
            self.assertEqual(read_bag(PLAN, "clock ab from 0 to 0\n"), (("clock", "ab", 0, 0),))
            error = error_of(read_bag, (10, (("a", 0, 5, 1),)), "clock ab from 0 to 0\n")
            self.assertEqual(error.line, 1)


class BadTexts(unittest.TestCase):
    def assert_bad(self, text, line):
        with self.subTest(repr(text)):
            error = assert_raises_only(self, "BadText", read_bag, PLAN, text)
            self.assertEqual(error.line, line)

    def assert_bad_line(self, line):
        """The line is bad wherever it stands, also before another bad line."""
        good = GOOD_LINES[0] + "\n"
        self.assert_bad(line + "\n", 1)
        self.assert_bad(good * 2 + line + "\n" + good, 3)
        self.assert_bad(good + line + "\nworse\n\nworst", 2)

    def test_the_lines_that_these_tests_change_are_good(self):
        for line, letter in zip(GOOD_LINES, GOOD):
            self.assertEqual(read_bag(PLAN, line + "\n"), (letter,))
        for place in ALL_PLACES:
            for number in ("1", "9", "10", "123456789"):
                self.assertEqual(write_bag(read_bag(PLAN, place.format(number) + "\n")),
                                 place.format(number) + "\n")

    def test_empty_and_blank_lines(self):
        for line in ("", " ", "    ", "\t"):
            self.assert_bad_line(line)

    def test_a_newline_alone(self):
        self.assert_bad("\n", 1)
        self.assert_bad("\n\n", 1)
        self.assert_bad(GOOD_LINES[0] + "\n\n", 2)
        self.assert_bad("\n" + GOOD_LINES[0] + "\n", 1)

    def test_a_space_too_many(self):
        for line in GOOD_LINES:
            for at, sign in enumerate(line):
                if sign == " ":
                    self.assert_bad_line(line[:at] + " " + line[at:])
            self.assert_bad_line(" " + line)
            self.assert_bad_line(line + " ")

    def test_a_space_within_a_part(self):
        for line in GOOD_LINES:
            for at in range(1, len(line)):
                if " " not in line[at - 1:at + 1]:
                    self.assert_bad_line(line[:at] + " " + line[at:])

    def test_a_space_left_out(self):
        for line in GOOD_LINES:
            for at, sign in enumerate(line):
                if sign == " ":
                    self.assert_bad_line(line[:at] + line[at + 1:])

    def test_other_blanks(self):
        for blank in ("\t", "\r", "\f", "\v", "\x1c", "\x1d", "\x1e", "\x1f", "\x00"):
            for line in GOOD_LINES:
                self.assert_bad_line(blank + line)
                self.assert_bad_line(line + blank)
                self.assert_bad_line(line.replace(" ", blank))
                self.assert_bad_line(line.replace(" ", blank, 1))
                self.assert_bad_line(line.replace(" ", " " + blank, 1))
                self.assert_bad_line(blank.join(line.rsplit(" ", 1)))

    def test_other_line_ends(self):
        line = GOOD_LINES[0]
        for end in ("\r", "\f", "\v", "\x1c", "\x1d", "\x1e", "\x00"):
            self.assert_bad(line + end + line + "\n", 1)
            self.assert_bad(line + "\n" + line + end, 2)
            self.assert_bad(line + end, 1)
        self.assert_bad(line + "\r\n" + line + "\r\n", 1)
        self.assert_bad(line + "\n" + line + "\r\n", 2)
        self.assert_bad(line + "\n\r", 2)

    def test_capitals(self):
        for line in GOOD_LINES:
            self.assert_bad_line(line.upper())
            for at, sign in enumerate(line):
                if sign.islower():
                    self.assert_bad_line(line[:at] + sign.upper() + line[at + 1:])

    def test_a_part_left_out_or_put_twice(self):
        for line in GOOD_LINES:
            parts = line.split(" ")
            for at in range(len(parts)):
                self.assert_bad_line(" ".join(parts[:at] + parts[at + 1:]))
                self.assert_bad_line(" ".join(parts[:at + 1] + parts[at:]))

    def test_pairs_of_parts_left_out_or_put_twice(self):
        for line in GOOD_LINES:
            parts = line.split(" ")
            for at in range(len(parts) - 1):
                self.assert_bad_line(" ".join(parts[:at] + parts[at + 2:]))
                self.assert_bad_line(" ".join(parts[:at + 2] + parts[at:]))

    def test_two_letters_in_one_line(self):
        self.assert_bad_line(GOOD_LINES[0] + " " + GOOD_LINES[4])
        self.assert_bad_line(GOOD_LINES[4] + GOOD_LINES[4])

    def test_another_word_in_the_place_of_a_word(self):
        words = ("read", "slot", "version", "at", "is", "close", "after", "with", "clock", "from", "to",
                 "void", "reads", "rea", "a", "x", "-", "1")
        for line in GOOD_LINES:
            parts = line.split(" ")
            for at in [0] + list(range(2, len(parts), 2)):
                for word in words:
                    if word != parts[at]:
                        self.assert_bad_line(" ".join(parts[:at] + [word] + parts[at + 1:]))

    def test_words_in_another_order(self):
        self.assert_bad_line("read a version 1 slot 2 at 17 is void")
        self.assert_bad_line("clock a to 0 from -1")
        self.assert_bad_line("a read slot 2 version 1 at 17 is void")

    def test_names_of_no_meter(self):
        for name in ("b", "aa", "abb", "pum", "pumps", "A", "a1", "0", "-1", "void", "read", "slot"):
            for line in GOOD_LINES:
                parts = line.split(" ")
                self.assert_bad_line(" ".join(parts[:1] + [name] + parts[2:]))

    def test_slot_below_one(self):
        for place in FROM_ONE:
            for number in ("0", "-1", "-" + "9" * 60):
                self.assert_bad_line(place.format(number))

    def test_negative_numbers_where_none_may_be(self):
        for place in FROM_ONE + FROM_ZERO:
            for number in ("-1", "-20", "-" + "9" * 60):
                self.assert_bad_line(place.format(number))

    def test_zero_and_negative_numbers_where_they_may_be(self):
        for place in FROM_ZERO:
            read_bag(PLAN, place.format("0") + "\n")
        for place in ANY_INTEGER:
            for number in ("0", "-1", "-20"):
                read_bag(PLAN, place.format(number) + "\n")

    def test_what_is_no_integer(self):
        numbers = (
            "00", "01", "-0", "-00", "-01", "007", "+1", "+0", "+-1", "-+1", "--1", "-", "+", "1.0", "1.",
            ".5", "1_0", "_1", "1_", "1e3", "0x1", "0b1", "1a", "a1", "a", "1-", "1-1", "1,0", "one", "None",
            "none", "Void", "voids", "-void", "1\t", "\t1", "", "True", "'1'", "(1)", "1/1", "1 1",
        )
        for place in ALL_PLACES:
            for number in numbers:
                self.assert_bad_line(place.format(number))

    def test_digits_of_other_alphabets(self):
        for number in ("\u0661", "\u00b2", "\uff11"):
            self.assert_bad_line(ALL_PLACES[2].format(number))

    def test_sixty_digits_are_good_and_sixty_one_are_bad(self):
        for place in ALL_PLACES:
            for good in ("1" * 60, "9" * 60, "1" + "0" * 59):
                self.assertEqual(write_bag(read_bag(PLAN, place.format(good) + "\n")),
                                 place.format(good) + "\n")
            for bad in (str(SIXTY_ONE), "9" * 61, "1" + "0" * 60, "0" + "1" * 60, "9" * 5000):
                self.assert_bad_line(place.format(bad))

    def test_sixty_digits_behind_a_minus_sign(self):
        for place in ANY_INTEGER:
            for good in ("-" + "9" * 60, "-1" + "0" * 59):
                self.assertEqual(write_bag(read_bag(PLAN, place.format(good) + "\n")),
                                 place.format(good) + "\n")
            for bad in (str(-SIXTY_ONE), "-" + "9" * 61, "-0" + "9" * 60, "-" + "9" * 5000):
                self.assert_bad_line(place.format(bad))

    def test_void_in_the_place_of_another_integer(self):
        for place in ALL_PLACES:
            if not place.endswith("is {}"):
                self.assert_bad_line(place.format("void"))
        self.assertEqual(read_bag(PLAN, ALL_PLACES[3].format("void") + "\n"),
                         (("read", "a", 2, 1, 17, None),))

    def test_the_last_line_does_not_end(self):
        for line in GOOD_LINES:
            self.assert_bad(line, 1)
            self.assert_bad(line + "\n" + line, 2)
            self.assert_bad((line + "\n") * 30 + line, 31)
        self.assert_bad("x", 1)
        self.assert_bad(" ", 1)
        self.assert_bad(GOOD_LINES[0] + "\nx", 2)
        self.assert_bad(GOOD_LINES[0] + "\n ", 2)

    def test_an_earlier_bad_line_counts_before_the_end(self):
        line = GOOD_LINES[0]
        self.assert_bad("x\n" + line, 1)
        self.assert_bad(line + "\n\n" + line, 2)
        self.assert_bad(line + "\nx\nx\n" + line, 2)

    def test_a_later_line(self):
        for before in (1, 2, 12, 1999):
            self.assert_bad((GOOD_LINES[0] + "\n") * before + "x\n", before + 1)
            self.assert_bad((GOOD_LINES[0] + "\n") * before + "x\n" + GOOD_LINES[0] + "\n", before + 1)


if __name__ == "__main__":
    unittest.main()
