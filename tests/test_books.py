"""Section 4: what books tell, and what becomes of them."""

import itertools
import unittest

from opengates.books import Book, joined, melted, multiplied, renamed, renamings, twins
from opengates.errors import (
    BadNames, NoKind, NoMark, NotAbove, OtherKinds, TooGreat, TooMany,
)
from opengates.scripts import Script
from tests.helpers import any_values, expect, expect_very, nested, not_strings

TOP = 10 ** 12
PAIR = Book("book 0\nmark a 1\nmark b 2\nkind k 0 1 2 3\nkind l 4 5 6 7")


def book(by, weights, *kinds, names="abcd"):
    """A book with these weights, and these rows of worths of kinds k, l, m."""
    rows = [f"mark {name} {weight}" for name, weight in zip(names, weights)]
    rows += [f"kind {name} {worths}" for name, worths in zip("klm", kinds)]
    return Book("\n".join([f"book {by}", *rows]))


class WhatBooksTell(unittest.TestCase):
    def test_length_is_how_many_marks(self):
        for many in range(1, 5):
            self.assertEqual(len(book(0, [1] * many, " ".join(["1"] * many * many))), many)

    def test_in_asks_for_names_of_marks(self):
        self.assertEqual([value in PAIR for value in ("a", "b", "c", "k", "ab", "A")], [True, True] + [False] * 4)
        for value in any_values():
            self.assertIs(value in PAIR, False)

    def test_equal_if_the_texts_are(self):
        again = Book(PAIR.text)
        self.assertTrue(again == PAIR and not again != PAIR)
        other = Book(PAIR.text[:-1] + "8")
        self.assertTrue(other != PAIR and not other == PAIR)
        for value in any_values() + [PAIR.text, [PAIR], (PAIR,), Script("script\na = one")]:
            self.assertIs(PAIR == value, False)
            self.assertIs(value == PAIR, False)
            self.assertIs(PAIR != value, True)

    def test_no_mark(self):
        for value in any_values() + ["k", "c", ["a"], ("a",), {"a": "a"}]:
            expect_very(self, NoMark, value, PAIR.weight, value)
            expect_very(self, NoMark, value, PAIR.worth, "k", value, "a")
            expect_very(self, NoMark, value, PAIR.worth, "k", "a", value)
            expect_very(self, NoMark, value, PAIR.worth, "l", value, nested("a", 3))

    def test_no_kind_comes_first(self):
        for value in any_values() + ["a", "b", "m", ["k"], ("k",), {"k": "k"}]:
            expect_very(self, NoKind, value, PAIR.worth, value, "a", "b")
            expect_very(self, NoKind, value, PAIR.worth, value, "no", None)

    def test_no_mark_is_told_for_one_ahead_of_other(self):
        expect(self, NoMark, "p", PAIR.worth, "k", "p", "q")
        expect(self, NoMark, "q", PAIR.worth, "k", "a", "q")
        expect(self, NoMark, 1, PAIR.worth, "k", 1, True)

    def test_weights_and_worths(self):
        self.assertEqual([PAIR.weight("a"), PAIR.weight("b")], [1, 2])
        worths = [PAIR.worth(kind, one, other) for kind in "kl" for one in "ab" for other in "ab"]
        self.assertEqual(worths, [0, 1, 2, 3, 4, 5, 6, 7])


class OneSort(unittest.TestCase):
    def test_other_kinds(self):
        one = Book("book 0\nmark a 1\nkind k 1\nkind l 1")
        others = ["book 3\nmark a 1\nkind k 1\nkind l 1", "book 0\nmark a 1\nkind l 1\nkind k 1",
                  "book 0\nmark a 1\nkind k 1", "book 0\nmark a 1\nkind k 1\nkind l 1\nkind m 1",
                  "book 0\nmark a 1\nkind k 1\nkind m 1"]
        for text in others:
            for call in (renamings, multiplied, joined):
                other = Book(text)
                expect_very(self, OtherKinds, other, call, one, other)
                expect_very(self, OtherKinds, one, call, other, one)

    def test_other_kinds_comes_ahead_of_too_many_and_too_great(self):
        one = book(0, [1, 1, 1], "1 1 1 1 1 1 1 1 1")
        other = book(0, [TOP, TOP], "1 1 1 1", "1 1 1 1")
        for call in (multiplied, joined):
            expect_very(self, OtherKinds, other, call, one, other)

    def test_books_of_one_sort_may_have_other_marks(self):
        one = Book("book 0\nmark a 1\nkind k 1")
        other = Book("book 0\nmark z 4\nmark a 1\nkind k 1 2 3 4")
        self.assertEqual(renamings(one, other), ())
        self.assertEqual(len(joined(one, other)), 3)
        self.assertEqual(len(multiplied(one, other)), 2)


def renamings_one_by_one(one, other):
    found = []
    for names in itertools.permutations(other.marks):
        if len(names) != len(one.marks):
            continue
        pairs = list(zip(one.marks, names))
        same = all(one.weight(mark) == other.weight(name) for mark, name in pairs)
        for kind in one.kinds:
            for (mark, name), (to, its) in itertools.product(pairs, pairs):
                same = same and one.worth(kind, mark, to) == other.worth(kind, name, its)
        if same:
            found.append(names)
    return tuple(sorted(found))


class Renamings(unittest.TestCase):
    def test_all_renamings_of_alike_marks(self):
        free = book(0, [2, 2, 2, 2], " ".join(["5"] * 16), names="dbca")
        self.assertEqual(renamings(free, free), tuple(sorted(itertools.permutations("abcd"))))

    def test_weights_must_agree(self):
        self.assertEqual(renamings(book(0, [1, 2], "0 0 0 0"), book(0, [2, 1], "0 0 0 0")), (("b", "a"),))
        self.assertEqual(renamings(book(0, [1, 2], "0 0 0 0"), book(0, [1, 1], "0 0 0 0")), ())

    def test_worths_must_agree_each_way_and_from_a_mark_to_itself(self):
        one = book(0, [1, 1], "0 1 2 0")
        self.assertEqual(renamings(one, one), (("a", "b"),))
        self.assertEqual(renamings(one, book(0, [1, 1], "0 2 1 0")), (("b", "a"),))
        self.assertEqual(renamings(one, book(0, [1, 1], "0 1 1 0")), ())
        self.assertEqual(renamings(book(0, [1, 1], "3 1 1 4"), book(0, [1, 1], "4 1 1 3")), (("b", "a"),))

    def test_every_kind_must_agree(self):
        one = book(0, [1, 1], "0 1 1 0", "1 0 0 2")
        self.assertEqual(renamings(one, one), (("a", "b"),))
        self.assertEqual(renamings(one, book(0, [1, 1], "0 1 1 0", "2 0 0 1")), (("b", "a"),))

    def test_unlike_numbers_of_marks(self):
        for many, others in ((1, 2), (2, 1), (3, 4), (4, 3)):
            one = book(0, [1] * many, " ".join(["1"] * many ** 2))
            other = book(0, [1] * others, " ".join(["1"] * others ** 2))
            self.assertEqual(renamings(one, other), ())

    def test_ascending_by_names_whatever_the_sequence_of_marks(self):
        one = book(0, [1, 1], "0 1 1 0")
        other = book(0, [1, 1], "0 1 1 0", names=["z", "a"])
        self.assertEqual(renamings(one, other), (("a", "z"), ("z", "a")))
        self.assertEqual(renamings(other, one), (("a", "b"), ("b", "a")))

    def test_against_going_through_all_of_them(self):
        small = [book(by, weights, " ".join(map(str, worths)))
                 for by in (0, 2) for weights in ([1, 1],)
                 for worths in itertools.product((0, 1), repeat=4)]
        small += [book(0, [1, weight, 1], " ".join(map(str, worths))) for weight in (1, 2)
                  for worths in [(0, 1, 0, 1, 0, 1, 0, 1, 0), (0, 1, 0, 0, 0, 1, 1, 0, 0), (1,) * 9,
                                 (0, 1, 1, 1, 0, 0, 1, 0, 0), (2, 1, 1, 1, 2, 1, 1, 1, 2)]]
        ring = "0 1 0 1 1 0 1 0 0 1 0 1 1 0 1 0"
        star = "0 1 1 1 1 0 0 0 1 0 0 0 1 0 0 0"
        way = "0 1 0 0 0 0 1 0 0 0 0 1 1 0 0 0"
        small += [book(0, weights, worths) for worths in (ring, star, way)
                  for weights in ([1, 1, 1, 1], [1, 2, 1, 2], [2, 1, 1, 1])]
        for one in small:
            for other in small:
                if one.by == other.by:
                    self.assertEqual(renamings(one, other), renamings_one_by_one(one, other))
        many = [len(renamings(one, one)) for one in small[-9:]]
        self.assertEqual(many, [8, 4, 2, 6, 2, 6, 4, 2, 1])


class Renamed(unittest.TestCase):
    def test_all_else_is_the_same(self):
        other = renamed(PAIR, ("q", "ab"))
        self.assertEqual(other.text, "book 0\nmark q 1\nmark ab 2\nkind k 0 1 2 3\nkind l 4 5 6 7")
        self.assertEqual(renamed(PAIR, ("b", "a")).marks, ("b", "a"))
        self.assertEqual(renamed(PAIR, ("a", "b")), PAIR)
        self.assertEqual(renamed(other, ("a", "b")), PAIR)

    def test_by_a_prime(self):
        five = book(5, [3, 1], "4 0 2 1")
        self.assertEqual(renamed(five, ("zz", "y")).text, "book 5\nmark zz 3\nmark y 1\nkind k 4 0 2 1")

    def test_names_of_kinds_and_words_of_texts_may_be_taken(self):
        self.assertEqual(renamed(PAIR, ("k", "mark")).marks, ("k", "mark"))

    def test_bad_names(self):
        bad = [("a",), ("a", "b", "c"), ("a", "a"), ["a", "b"], ("a", ["b"]), ("a", ("b",)), ("a", None),
               ("a", 1), (True, "b"), ("a", "B"), ("a", ""), ("a", "abcde"), ("a", "b1"), ("a", "b "), "ab",
               {"a": 1, "b": 2}, ("a", {"b": 1}), ([], []), (PAIR, "b"), ("a", "b\n"), ()]
        for value in bad + any_values():
            if value == ("a", "b"):
                continue
            expect_very(self, BadNames, value, renamed, PAIR, value)
        for value in [value for value in not_strings() if value != ("a",)]:
            expect_very(self, BadNames, value, renamed, Book("book 0\nmark a 1\nkind k 1"), value)

    def test_just_four_letters(self):
        self.assertEqual(renamed(PAIR, ("abcd", "zzzz")).marks, ("abcd", "zzzz"))


class Twins(unittest.TestCase):
    def test_no_twins(self):
        self.assertEqual(twins(PAIR), (("a",), ("b",)))

    def test_weights_do_not_matter(self):
        self.assertEqual(twins(book(0, [1, -7], "1 1 1 1")), (("a", "b"),))

    def test_roads_there_alone_or_back_alone_are_not_enough(self):
        self.assertEqual(twins(book(0, [1, 1], "1 2 1 2")), (("a",), ("b",)))
        self.assertEqual(twins(book(0, [1, 1], "1 1 2 2")), (("a",), ("b",)))
        self.assertEqual(twins(book(0, [1, 1, 1], "0 0 3 0 0 4 5 5 0")), (("a",), ("b",), ("c",)))
        self.assertEqual(twins(book(0, [1, 1, 1], "0 0 3 0 0 3 4 5 0")), (("a",), ("b",), ("c",)))

    def test_the_two_marks_themselves_count(self):
        self.assertEqual(twins(book(0, [1, 1], "0 1 1 0")), (("a",), ("b",)))
        self.assertEqual(twins(book(0, [1, 1], "0 0 0 1")), (("a",), ("b",)))

    def test_every_kind_counts(self):
        self.assertEqual(twins(book(0, [1, 1], "1 1 1 1", "1 1 1 2")), (("a",), ("b",)))
        self.assertEqual(twins(book(0, [1, 1], "1 1 1 1", "2 2 2 2")), (("a", "b"),))

    def test_lots_by_first_marks_and_marks_as_they_stand(self):
        worths = [[5 if (i + j) % 2 else 3 for j in range(4)] for i in range(4)]
        numbers = " ".join(str(worth) for row in worths for worth in row)
        self.assertEqual(twins(book(0, [1] * 4, numbers, names="dcba")), (("d", "b"), ("c", "a")))
        self.assertEqual(twins(book(2, [1] * 4, " ".join(["1"] * 16), names="badc")), (("b", "a", "d", "c"),))


class Melted(unittest.TestCase):
    def test_weights_of_twins_are_added(self):
        one = book(0, [3, 4, 5], "1 2 1 2 7 2 1 2 1", "0 0 0 0 1 0 0 0 0", names=["z", "y", "x"])
        self.assertEqual(melted(one).text, "book 0\nmark z 8\nmark y 4\nkind k 1 2 2 7\nkind l 0 0 0 1")

    def test_without_twins_nothing_changes(self):
        self.assertEqual(melted(PAIR), PAIR)

    def test_all_marks_into_one(self):
        self.assertEqual(melted(book(0, [1, 2, 3, 4], " ".join(["9"] * 16))).text, "book 0\nmark a 10\nkind k 9")

    def test_not_above(self):
        expect(self, NotAbove, "b", melted, book(0, [1, -1, -2], "1 1 1 1 1 1 1 1 1"))
        expect(self, NotAbove, "a", melted, book(0, [-1], "1"))
        expect(self, NotAbove, "b", melted, book(0, [1, -1], "0 1 1 0"))

    def test_by_a_prime_the_first_mark_is_told(self):
        for by in (2, 3, 97):
            expect(self, NotAbove, "y", melted, book(by, [1, 1], "1 1 1 1", names="yx"))

    def test_too_great(self):
        self.assertEqual(melted(book(0, [TOP - 1, 1], "1 1 1 1")).weight("a"), TOP)
        expect(self, TooGreat, TOP + 1, melted, book(0, [TOP, 1], "1 1 1 1"))
        lots = "1 1 2 2 1 1 2 2 2 2 1 1 2 2 1 1"
        expect(self, TooGreat, TOP + 3, melted, book(0, [TOP, 3, TOP, 4], lots))
        expect(self, TooGreat, TOP + 4, melted, book(0, [5, 3, TOP, 4], lots))

    def test_not_above_comes_ahead_of_too_great(self):
        expect(self, NotAbove, "c", melted, book(0, [TOP, TOP, -1], "1 1 1 1 1 1 1 1 1"))


class Multiplied(unittest.TestCase):
    def test_pairs_in_their_sequence(self):
        one = book(0, [2, 3], "1 2 3 4", names=["z", "y"])
        other = book(0, [5, -7], "5 6 7 8", names=["q", "p"])
        self.assertEqual(multiplied(one, other).text, "\n".join([
            "book 0", "mark a 10", "mark b -14", "mark c 15", "mark d -21",
            "kind k 5 6 10 12 7 8 14 16 15 18 20 24 21 24 28 32"]))

    def test_every_kind_for_itself(self):
        one = book(0, [1], "2", "3", "5")
        other = book(0, [1, 1], "1 2 3 4", "1 0 0 1", "-1 -1 -1 -1")
        rows = ["kind k 2 4 6 8", "kind l 3 0 0 3", "kind m -5 -5 -5 -5"]
        self.assertEqual(multiplied(one, other).text.split("\n")[3:], rows)
        self.assertEqual(multiplied(other, one).text.split("\n")[3:], rows)

    def test_by_a_prime_remainders(self):
        one = book(7, [3, 5], "6 5 4 3")
        other = book(7, [6], "6")
        self.assertEqual(multiplied(one, other).text, "book 7\nmark a 4\nmark b 2\nkind k 1 2 3 4")

    def test_too_many(self):
        books = {many: book(0, [1] * many, " ".join(["1"] * many ** 2)) for many in range(1, 5)}
        for one, other in itertools.product(books, books):
            if one * other > 4:
                expect(self, TooMany, one * other, multiplied, books[one], books[other])
            else:
                self.assertEqual(multiplied(books[one], books[other]).marks, tuple("abcd"[:one * other]))

    def test_too_great_with_the_first_number_of_the_text(self):
        great = book(0, [10 ** 6, 10 ** 6 + 1], "1 1 1 1")
        expect(self, TooGreat, 10 ** 13, multiplied, great, book(0, [10 ** 6, 10 ** 7], "1 1 1 1"))
        expect(self, TooGreat, 10 ** 12 + 10 ** 6, multiplied, great, book(0, [10 ** 6, 1], "1 1 1 1"))
        expect(self, TooGreat, -10 ** 13, multiplied, great, book(0, [10 ** 5, -10 ** 7], "1 1 1 1"))
        one = book(0, [1, 1], f"1 {10 ** 6} {-10 ** 7} 1", f"{TOP} 1 1 1")
        other = book(0, [1], str(10 ** 6), "2")
        expect(self, TooGreat, -10 ** 13, multiplied, one, other)
        expect(self, TooGreat, 2 * TOP, multiplied, one, book(0, [1], "1", "2"))
        expect(self, TooGreat, 2 * TOP, multiplied, book(0, [TOP], str(TOP)), book(0, [2], str(TOP)))

    def test_just_within(self):
        one = book(0, [10 ** 6, -10 ** 6], f"{TOP} {-TOP} 0 1")
        other = book(0, [10 ** 6], "-1")
        text = f"book 0\nmark a {TOP}\nmark b {-TOP}\nkind k {-TOP} {TOP} 0 -1"
        self.assertEqual(multiplied(one, other).text, text)

    def test_too_many_comes_ahead_of_too_great(self):
        one = book(0, [TOP, TOP], "1 1 1 1")
        expect(self, TooMany, 6, multiplied, one, book(0, [2, 2, 2], "1 1 1 1 1 1 1 1 1"))

    def test_nought_is_written_plainly(self):
        self.assertEqual(multiplied(book(0, [-1], "0"), book(0, [1], "-5")).text, "book 0\nmark a -1\nkind k 0")


class Joined(unittest.TestCase):
    def test_both_as_they_were_and_nought_between(self):
        one = book(0, [2], "9", names=["z"])
        other = book(0, [5, -7], "5 6 7 8", names=["z", "a"])
        self.assertEqual(joined(one, other).text, "\n".join([
            "book 0", "mark a 2", "mark b 5", "mark c -7", "kind k 9 0 0 0 5 6 0 7 8"]))
        self.assertEqual(joined(other, one).text, "\n".join([
            "book 0", "mark a 5", "mark b -7", "mark c 2", "kind k 5 6 0 7 8 0 0 0 9"]))

    def test_every_kind_and_primes(self):
        one = book(7, [3], "6", "1")
        self.assertEqual(joined(one, one).text, "book 7\nmark a 3\nmark b 3\nkind k 6 0 0 6\nkind l 1 0 0 1")

    def test_too_many(self):
        books = {many: book(0, [TOP] * many, " ".join([str(-TOP)] * many ** 2)) for many in range(1, 5)}
        for one, other in itertools.product(books, books):
            if one + other > 4:
                expect(self, TooMany, one + other, joined, books[one], books[other])
            else:
                self.assertEqual(joined(books[one], books[other]).marks, tuple("abcd"[:one + other]))


def count(one, places, roads):
    """The count of a net without gates, way by way."""
    total = 0
    for way in itertools.product(one.marks, repeat=places):
        worth = 1
        for mark in way:
            worth *= one.weight(mark)
        for kind, start, end in roads:
            worth *= one.worth(kind, way[start], way[end])
        total += worth
    return total % one.by if one.by else total


NETS = [
    (1, ()), (1, (("k", 0, 0),)), (2, (("k", 0, 1), ("k", 1, 0))), (3, (("k", 0, 1), ("k", 1, 2), ("k", 2, 0))),
    (4, (("k", 0, 1), ("k", 0, 2), ("k", 0, 3), ("k", 2, 2))), (3, (("k", 0, 1), ("k", 0, 1), ("k", 2, 1))),
]


class Counts(unittest.TestCase):
    """What the document tells of all plain nets, on some of them."""

    def books(self, by):
        return [book(by, [1, 1], "1 1 1 0"), book(by, [2, 1], "0 1 2 1"), book(by, [2], "2"),
                book(by, [1, 2], "2 2 2 2")]

    def test_renamed_and_melted(self):
        for one in self.books(0) + [book(0, [1, 2, 3], "0 1 0 2 1 2 0 1 0")]:
            for net in NETS:
                self.assertEqual(count(melted(one), *net), count(one, *net))
                names = tuple("zyxw"[:len(one)])
                self.assertEqual(count(renamed(one, names), *net), count(one, *net))

    def test_multiplied_and_joined(self):
        for by in (0, 3):
            for one, other in itertools.product(self.books(by), self.books(by)):
                for net in NETS:
                    product = count(one, *net) * count(other, *net)
                    total = count(one, *net) + count(other, *net)
                    if by:
                        product, total = product % by, total % by
                    self.assertEqual(count(multiplied(one, other), *net), product)
                    self.assertEqual(count(joined(one, other), *net), total)


class OtherNames(unittest.TestCase):
    def test_read_back_from_the_text(self):
        for one in (PAIR, book(5, [3, 1], "4 0 2 1"), multiplied(PAIR, PAIR), joined(PAIR, PAIR), melted(PAIR)):
            again = Book(one.text)
            self.assertEqual((again, vars(again)), (one, vars(one)))

    def test_other_names_for_marks_change_nothing_else(self):
        one = book(0, [1, 2, 1], "0 1 0 1 0 1 0 1 0", "3 3 3 3 4 3 3 3 3")
        names = ("p", "a", "c")
        other = renamed(one, names)
        told = dict(zip(one.marks, names))
        self.assertEqual(twins(other), tuple(tuple(told[mark] for mark in lot) for lot in twins(one)))
        self.assertEqual(melted(other).text.split("\n")[3:], melted(one).text.split("\n")[3:])
        self.assertEqual(multiplied(other, book(0, [3], "2", "2")), multiplied(one, book(0, [3], "2", "2")))
        self.assertEqual(joined(other, book(0, [3], "2", "2")), joined(one, book(0, [3], "2", "2")))
        self.assertEqual(len(renamings(other, other)), len(renamings(one, one)))
        self.assertIn(names, renamings(one, other))

    def test_other_names_for_kinds_change_nothing_else(self):
        other = Book(PAIR.text.replace("kind k", "kind zz").replace("kind l", "kind a"))
        for one, to in itertools.product("ab", "ab"):
            self.assertEqual(other.worth("zz", one, to), PAIR.worth("k", one, to))
            self.assertEqual(other.worth("a", one, to), PAIR.worth("l", one, to))
        self.assertEqual([twins(other), renamings(other, other)], [twins(PAIR), renamings(PAIR, PAIR)])


if __name__ == "__main__":
    unittest.main()
