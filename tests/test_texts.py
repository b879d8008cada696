"""Promise 4, and what the document says of texts of conditions: form."""

import unittest

from tests.helper import KEPT_WORDS, ask, ask_last, flag, form, learn, name, rule, text_of, told

LETTERS = [flag(key + 1, letter) for key, letter in enumerate("abcdefgh")]


def formed(text):
    return ask_last(*LETTERS, form(text))


class FormCase(unittest.TestCase):
    def assert_written(self, text, written):
        self.assertEqual(formed(text), told(written), text)

    def assert_stays(self, text):
        self.assert_written(text, text)

    def assert_place(self, text, place):
        self.assertEqual(formed(text), [-1000 - place], text)


class Tokens(FormCase):
    def test_blanks_part_and_are_none(self):
        self.assert_written("   a    and b ", "a and b")
        self.assert_written("(a)or(b)", "a or b")
        self.assert_written("not(a)", "not a")
        self.assert_written("( not ( a ) )", "not a")

    def test_no_blank_between_word_and_number(self):
        self.assert_written("from5", "from 5")
        self.assert_written("rank2to5", "rank 2 to 5")
        self.assert_written("rank2to5and before7or a", "rank 2 to 5 and before 7 or a")
        self.assert_written("from5and(a)", "from 5 and a")

    def test_words_are_as_long_as_they_can_be(self):
        self.assertEqual(formed("nota"), [-6000])
        self.assertEqual(formed("aandb"), [-6000])
        self.assertEqual(formed("truefalse"), [-6000])
        self.assert_place("a orb", 2)
        self.assert_place("rank 3 tob", 7)
        self.assert_place("fromm 3", 6)

    def test_numbers_are_as_long_as_they_can_be(self):
        self.assert_place("rank 12", 5)
        self.assert_place("rank 1 2", 7)
        self.assert_written("from 12", "from 12")

    def test_bytes_of_every_kind(self):
        usual = list(range(97, 123)) + list(range(48, 58)) + [32, 40, 41]
        for byte in range(256):
            if byte in usual:
                continue
            self.assertEqual(formed([byte]), [-1000], byte)
            self.assertEqual(formed([97, byte]), [-1001], byte)
            self.assertEqual(formed([97, byte, 97]), [-1001], byte)
            self.assertEqual(formed([97, 32, 111, 114, byte, 98]), [-1004], byte)
            self.assertEqual(formed(list(b"from") + [byte, 53]), [-1004], byte)

    def test_usual_bytes_alone(self):
        for byte in range(97, 105):
            self.assertEqual(formed([byte]), [0, byte])
        for byte in range(105, 123):
            self.assertEqual(formed([byte]), [-6000])
        for byte in list(range(48, 58)) + [41]:
            self.assertEqual(formed([byte]), [-1000])
        self.assertEqual(formed([32]), [-1001])
        self.assertEqual(formed([40]), [-1001])

    def test_capitals_are_no_letters(self):
        self.assert_place("A", 0)
        self.assert_place("a AND b", 2)
        self.assert_place("aB", 1)


class Numbers(FormCase):
    def test_days(self):
        for day in ("0", "1", "9", "10", "999999", "1000000"):
            self.assert_stays("from " + day)
            self.assert_stays("before " + day)

    def test_days_too_great(self):
        for day in ("1000001", "1000010", "2000000", "9999999", "10000000", "9" * 4000, "1" + "0" * 900):
            self.assert_place("from " + day, 5)
            self.assert_place("before " + day, 7)

    def test_numbers_that_begin_with_0(self):
        for number in ("00", "01", "007", "01000000", "0" * 4000):
            self.assert_place("from " + number, 5)
            self.assert_place("before " + number, 7)
            self.assert_place("rank " + number, 5)
            self.assert_place("rank 0 to " + number, 10)

    def test_ranks(self):
        for rank in "01234567":
            self.assert_stays("rank " + rank)
        for rank in ("8", "9", "10", "77", "1000000"):
            self.assert_place("rank " + rank, 5)
            self.assert_place("rank 3 to " + rank, 10)

    def test_ranks_with_to(self):
        for low in range(8):
            for high in range(8):
                text = f"rank {low} to {high}"
                if low > high:
                    self.assert_place(text, 10)
                elif low == high:
                    self.assert_written(text, f"rank {low}")
                else:
                    self.assert_stays(text)

    def test_words_in_the_place_of_numbers(self):
        for word in KEPT_WORDS + ("a", "(", ")"):
            self.assert_place("from " + word, 5)
            self.assert_place("before " + word, 7)
            self.assert_place("rank " + word, 5)
            self.assert_place("rank 1 to " + word, 10)

    def test_numbers_in_the_place_of_words(self):
        self.assert_place("5", 0)
        self.assert_place("a and 5", 6)
        self.assert_place("a 5", 2)
        self.assert_place("not 5", 4)
        self.assert_place("from 5 5", 7)


class Places(FormCase):
    def test_empty_text(self):
        self.assert_place("", 0)

    def test_blanks_alone(self):
        self.assert_place(" ", 1)
        self.assert_place(" " * 4096, 4096)

    def test_first_token(self):
        for text in (")", "and", "or a", "to", "to 3", "5", "?", "and a"):
            self.assert_place(text, 0)
        self.assert_place("   ) a", 3)

    def test_middle_token(self):
        self.assert_place("a b and a", 2)
        self.assert_place("a and and a", 6)
        self.assert_place("a and or a", 6)
        self.assert_place("(a) b", 4)
        self.assert_place("(a b)", 3)
        self.assert_place("a not b", 2)
        self.assert_place("a ( b )", 2)
        self.assert_place("() or a", 1)
        self.assert_place("true false or a", 5)
        self.assert_place("rank 3 to 2 or a", 10)

    def test_last_token(self):
        self.assert_place("a )", 2)
        self.assert_place("(a))", 3)
        self.assert_place("(a or)", 5)
        self.assert_place("not)", 3)
        self.assert_place("a or b c", 7)
        self.assert_place("a or b c    ", 7)
        self.assert_place("a and to", 6)

    def test_to(self):
        self.assert_place("a to 3", 2)
        self.assert_place("from 3 to 4", 7)
        self.assert_place("rank 3 to 4 to 5", 12)
        self.assert_place("(rank 3) to 4", 9)
        self.assert_place("rank 3 to to 4", 10)
        self.assert_place("not rank 3 and to 4", 15)
        self.assert_written("not rank 3 to 4 or a", "not rank 3 to 4 or a")

    def test_more_would_have_to_come(self):
        for text in ("a and", "a or", "not", "(", "(a", "((a)", "from", "before", "rank", "rank 3 to", "a or not", "(a and"):
            self.assert_place(text, len(text))
            self.assert_place(text + "   ", len(text) + 3)
            self.assert_place("  " + text + " ", len(text) + 3)

    def test_the_first_wrong_token_counts(self):
        self.assert_place("a b c d ) ?", 2)
        self.assert_place("( ) )", 2)
        self.assert_place("? ?", 0)

    def test_wrong_before_unknown(self):
        self.assert_place("zz or", 5)
        self.assert_place("zz zz", 3)

    def test_place_in_a_text_of_4096(self):
        start = "a or " * 818
        self.assert_place(start + " or b)", 4091)
        self.assert_place(start + "b    )", 4095)
        self.assert_place(start + "b   or", 4096)
        self.assert_place(start + "b or  ", 4096)


class Nesting(FormCase):
    def test_nots(self):
        self.assert_stays("not " * 40 + "a")
        self.assert_place("not " * 41 + "a", 160)
        self.assert_place("not " * 40, 160)

    def test_brackets(self):
        self.assert_written("(" * 40 + "a" + ")" * 40, "a")
        self.assert_place("(" * 41 + "a" + ")" * 41, 40)
        self.assert_place("(" * 40, 40)

    def test_both_count_together(self):
        self.assert_written("not (" * 20 + "a" + ")" * 20, "not " * 20 + "a")
        self.assert_place("not (" * 20 + "not a" + ")" * 20, 100)
        self.assert_place("not (" * 20 + "(a)" + ")" * 20, 100)
        self.assert_place("(" * 39 + "not (a)" + ")" * 39, 43)
        self.assert_written("(" * 39 + "not a" + ")" * 39, "not a")

    def test_what_is_at_its_end_no_longer_counts(self):
        self.assert_written("(" * 40 + "a" + ")" * 40 + " and " + "not " * 40 + "b", "a and " + "not " * 40 + "b")
        self.assert_written("(" * 39 + "not a and not b" + ")" * 39, "not a and not b")
        self.assert_written("(" * 39 + "(a) and (b)" + ")" * 39, "a and b")
        self.assert_written("(" * 38 + "not (a) or not (b)" + ")" * 38, "not a or not b")
        self.assert_place("(" * 39 + "not a and not not b" + ")" * 39, 53)
        self.assert_place("(" * 39 + "(a) and ((b))" + ")" * 39, 48)
        self.assert_place("(" * 38 + "not (a) and not (b) and not ((c))" + ")" * 38, 67)
        self.assert_place("not " * 39 + "(a and (b))", 163)

    def test_a_not_ends_with_its_unit(self):
        self.assert_written("not " * 39 + "(a) and " + "(" * 40 + "b" + ")" * 40, "not " * 39 + "a and b")

    def test_in_a_rule(self):
        self.assertEqual(ask_last(*LETTERS, rule(1, "not " * 40 + "a")), [0])
        self.assertEqual(ask_last(*LETTERS, rule(1, "not " * 41 + "a")), [-1160])


class Written(FormCase):
    def test_plain_units(self):
        for text in ("true", "false", "a", "from 5", "before 5", "rank 5", "rank 1 to 6", "not a", "not not a"):
            self.assert_stays(text)

    def test_brackets_that_stand(self):
        for text in (
            "not (a and b)",
            "not (a or b)",
            "a and (b and c)",
            "a and (b or c)",
            "(a or b) and c",
            "a or (b or c)",
            "not (not (a and b) or c)",
            "(a or b) and (c or d)",
            "a and (b and (c and d))",
            "a or (b or (c or d))",
            "(a or b) and c and (d and e or f)",
            "a and b or (c or d)",
        ):
            self.assert_stays(text)

    def test_brackets_that_go(self):
        self.assert_written("(a)", "a")
        self.assert_written("((a and b))", "a and b")
        self.assert_written("(a and b) and c", "a and b and c")
        self.assert_written("((a and b) and c) and d", "a and b and c and d")
        self.assert_written("(a or b) or c", "a or b or c")
        self.assert_written("(a and b) or c", "a and b or c")
        self.assert_written("a or (b and c)", "a or b and c")
        self.assert_written("(not a) and (not b)", "not a and not b")
        self.assert_written("not (a)", "not a")
        self.assert_written("not (not a)", "not not a")
        self.assert_written("(rank 3) and (from 5)", "rank 3 and from 5")

    def test_not_before_and_before_or(self):
        self.assert_written("not a and b", "not a and b")
        self.assert_written("(not a and b)", "not a and b")
        self.assert_written("a or b and c or d", "a or b and c or d")
        self.assert_written("a or ((b and c) or d)", "a or (b and c or d)")

    def test_rank_told_once_or_twice_the_same(self):
        self.assert_written("rank 4 to 4", "rank 4")
        self.assert_written("rank 4", "rank 4")

    def test_200_and_201_bytes(self):
        base = "a or " * 38
        self.assertEqual(len(base), 190)
        self.assert_stays(base + "from 12345")
        self.assertEqual(formed(base + "from 123456"), [-20000])
        self.assertEqual(formed(base + "before 1000"), [-20000])

    def test_the_written_length_counts_not_the_text(self):
        self.assert_written(" " * 2000 + "a" + " " * 2095, "a")
        self.assert_written("(((a) or (b)))" + " " * 300, "a or b")
        self.assertEqual(formed("a or(b or(c or(d or " * 9 + "a" + ")))" * 9), [-20000])
        packed = "(a)or" * 39 + "(a)or a"
        self.assertEqual(formed(packed), [-20000])
        spread = "(a)or" * 39 + "(a)"
        self.assert_written(spread, " or ".join(["a"] * 40))

    def test_brackets_count_in_the_length(self):
        long_flag = flag(20, "abcdefghijkl")
        inner = "a or " * 36
        fits = "not (" + inner + "abcdefghijkl" + ")"
        self.assertEqual(len(fits), 198)
        self.assertEqual(ask_last(*LETTERS, long_flag, form("not(" + fits + "and a)"))[0], -20000)
        self.assertEqual(ask_last(*LETTERS, long_flag, form(fits)), told(fits))

    def test_long_texts(self):
        self.assertEqual(formed("a or " * 818 + "     a"), [-20000])
        self.assertEqual(formed("a and " * 682 + "   a"), [-20000])
        self.assertEqual(formed("a" + " " * 4095), told("a"))
        self.assertEqual(formed("a" * 4096), [-6000])


class UnknownFlags(FormCase):
    def test_the_first_one(self):
        self.assertEqual(formed("x"), [-6000])
        self.assertEqual(formed("a and x"), [-6006])
        self.assertEqual(formed("  x or y"), [-6002])
        self.assertEqual(formed("a or (b and not y) or x"), [-6016])
        self.assertEqual(formed("not(x)"), [-6004])

    def test_a_text_that_only_begins_like_one(self):
        self.assertEqual(ask(flag(1, "abc"), form("ab"), form("abcd"), form("abc")), [[0], [-6000], [-6000], told("abc")])

    def test_a_word_too_long_for_a_flag(self):
        self.assertEqual(formed("a or abcdefghijklm"), [-6005])

    def test_before_the_length(self):
        self.assertEqual(formed("a or " * 50 + "x"), [-6250])

    def test_last_place(self):
        self.assertEqual(formed("a or" + " " * 4091 + "x"), [-10095])

    def test_flags_that_come_later(self):
        calls = [form("a or b"), flag(1, "a"), form("a or b"), flag(2, "b"), form("a or b")]
        self.assertEqual(ask(*calls), [[-6000], [0], [-6005], [0], told("a or b")])


class FormPutsNothingIn(FormCase):
    def test_no_rule_comes_of_it(self):
        calls = LETTERS + [form("a"), text_of(1), rule(1, "b"), form("c"), text_of(1)]
        self.assertEqual(ask(*calls)[-5:], [told("a"), [-1], [0], told("c"), told("b")])

    def test_no_bound_of_rules(self):
        calls = LETTERS + [rule(key + 1) for key in range(64)] + [form("a"), name(1), learn(1, 1, 1)]
        self.assertEqual(ask(*calls)[-3:], [told("a"), [0], [0]])


if __name__ == "__main__":
    unittest.main()
