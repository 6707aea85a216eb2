"""Section 13: books that count alike."""

import itertools
import random
import unittest

from opengates.alike import alike, kinds_of, least_width, parted, shows_alike, shows_parted
from opengates.books import Book, joined, melted, renamed, renamings, twins
from opengates.errors import BadBooks, BadWidth, OtherKinds, TooMany
from opengates.lots import lots
from opengates.scripts import Script
from opengates.tables import count
from tests import catalog
from tests.again import fits_again, how_many_rows, is_family_again, is_stable_again, lots_again, near_texts, numbered_rows, worths_again
from tests.drawing import draw_book, draw_script
from tests.helpers import any_values, expect, expect_very

ROADS = "script\nx = road k 1 2\ny = close 2 x\nz = close 1 y"


def are_alike(books, k, family=None):
    """Whether the rows without marks of two books are in one lot."""
    family = lots_again(books, k) if family is None else family
    return any((0, ()) in lot and (1, ()) in lot for lot in family[0])


class Alike(unittest.TestCase):
    def check(self, one, other, k):
        found = alike(one, other, k)
        self.assertEqual((type(found), len(found)), (tuple, 2))
        self.assertIs(shows_alike(one, other, k, found), True)
        if are_alike((one, other), k):
            self.assertEqual(found[0], "alike")
            self.assertTrue(is_family_again((one, other), k, found[1]) and is_stable_again((one, other), k, found[1]))
            self.assertTrue(are_alike((one, other), k, found[1]))
        else:
            self.assertEqual(found[0], "unlike")
            self.assertTrue(fits_again(one, k, (), found[1]) and fits_again(other, k, (), found[1]))
            self.assertNotEqual(worths_again(one, found[1]), worths_again(other, found[1]))
            self.assertIs(shows_alike(other, one, k, found), True)
            self.assertIs(shows_alike(one, other, k, ("alike", lots((one, other), k))), False)
        return found

    def test_all_pairs(self):
        words = []
        for one, other, k in catalog.pairs(60):
            words.append(self.check(one, other, k)[0])
            self.assertEqual(one == other, one.text == other.text)
            if one == other:
                self.assertEqual(words[-1], "alike")
        self.assertTrue(words.count("alike") > 60 and words.count("unlike") > 100)

    def test_renamed_and_melted_ones_are_alike(self):
        chance = random.Random(130)
        for _ in range(40):
            book = draw_book(chance, chance.choice((0, 2, 5)), chance.randint(1, 3))
            names = ["w", "x", "y"][:len(book)]
            rows = book.text.split("\n")
            # The marks in another sequence, with other names.
            order = chance.sample(range(len(book)), len(book))
            other = Book("\n".join([rows[0]] + [f"mark {names[at]} {book.weight(book.marks[at])}" for at in order] + [
                " ".join(["kind", kind] + [str(book.worth(kind, book.marks[one], book.marks[to])) for one in order for to in order]) for kind in book.kinds]))
            self.assertTrue(renamings(book, other))
            for k in (1, 2, 3):
                self.assertEqual(self.check(book, other, k)[0], "alike")
        for book in (catalog.ALL_TWINS, catalog.PATH, catalog.SQUARE, catalog.NOUGHT):
            if all(book.weight(mark) > 0 for mark in book.marks):
                for k in (1, 2, 3):
                    self.assertEqual(self.check(book, melted(book), k)[0], "alike")

    def test_marks_whose_weights_come_to_nought_may_go(self):
        # A mark more and its twin of the weight less by as much change no count.
        one = catalog.book(0, [5, 2, -2], "1 1 1 1 3 3 1 3 3")
        other = catalog.book(0, [5], "1")
        for k in (1, 2, 3, 4):
            self.assertEqual(self.check(one, other, k)[0], "unlike" if len(lots_again((one, other), k)[0]) > 1 else "alike")

    def test_alike_counts_alike(self):
        chance = random.Random(131)
        pairs = [(one, other, k) for one, other, k in catalog.pairs(60) if one != other and alike(one, other, k)[0] == "alike"]
        self.assertGreater(len(pairs), 20)
        for one, other, k in pairs:
            for _ in range(6):
                script = draw_script(chance, gates=(), among=tuple(range(1, k + 1)))
                if script.width <= k and all(parts[0] in one.kinds for _, form, parts in script.lines if form == "road"):
                    self.assertEqual(count(one, script), count(other, script))

    def test_alike_at_the_number_of_marks_is_renamed(self):
        chance = random.Random(132)
        seen = 0
        for _ in range(80):
            many = chance.randint(1, 2)
            books = [draw_book(chance, 0, many, above=True) for _ in range(2)]
            if any(len(twins(book)) < many for book in books):
                continue
            self.assertEqual(alike(*books, many)[0] == "alike", bool(renamings(*books)))
            seen += bool(renamings(*books))
        self.assertEqual(alike(catalog.SAME, renamed(catalog.SAME, ("p", "q")), 4)[0], "alike")

    def test_alike_at_a_width_is_alike_at_lesser_ones(self):
        for one, other, k in catalog.pairs(60):
            if k > 1 and alike(one, other, k)[0] == "alike":
                self.assertEqual(alike(one, other, k - 1)[0], "alike")

    def test_by_a_prime(self):
        # Three twins count as one by 2, and as none by 3: here by 3 the count of a lone place is 0 and 2.
        three = catalog.book(2, [1, 1, 1], "1" + " 1" * 8)
        self.assertEqual([alike(three, catalog.BY_TWO_ONE, k)[0] for k in (1, 2, 3)], ["alike"] * 3)
        self.assertEqual(alike(catalog.book(3, [1, 1, 1], "1" + " 1" * 8), catalog.book(3, [2], "1"), 1)[0], "unlike")
        self.assertEqual(alike(catalog.book(97, [96], "5"), catalog.book(97, [48, 48], "5 5 5 5"), 4)[0], "alike")

    def test_near_texts(self):
        right = wrong = 0
        for one, other, k in ((catalog.EQUAL, catalog.ALL_TWINS, 2), (catalog.EQUAL, catalog.SAME, 1), (catalog.BY_TWO, catalog.BY_TWO_ONE, 2),
                              (catalog.PATH, catalog.COLOURS, 2), (catalog.BY_THREE, catalog.BY_THREE_ODD, 2)):
            word, text = alike(one, other, k)
            self.assertEqual(word, "unlike")
            for near in [text, ROADS] + near_texts(text) + near_texts(ROADS):
                shown = fits_again(one, k, (), near) and worths_again(one, near) != worths_again(other, near)
                self.assertIs(shows_alike(one, other, k, ("unlike", near)), shown, near)
                self.assertIs(shows_alike(one, other, k, ("alike", near)), False)
                right += shown
                wrong += not shown
        self.assertTrue(right > 40 and wrong > 200, (right, wrong))

    def test_families(self):
        one, other = catalog.ONE, catalog.book(0, [1, 1], "3 3 3 3")
        family = lots((one, other), 1)
        self.assertEqual(family, ((((0, ()), (1, ())),), (((0, ("a",)), (1, ("a",)), (1, ("b",))),)))
        finer = (family[0], (((0, ("a",)), (1, ("a",))), ((1, ("b",)),)))
        for value, right in ((family, True), (finer, False), ((family[0][::-1], tuple(lot[::-1] for lot in family[1])), True),
                             (((((0, ()),), ((1, ()),)), family[1]), False), (family + (lots((one, other), 2)[2],), False), (list(family), False)):
            self.assertIs(shows_alike(one, other, 1, ("alike", value)), right)
            self.assertIs(shows_alike(one, other, 1, ["alike", value]), False)
            self.assertIs(shows_alike(one, other, 1, ("unlike", value)), False)
        # Stable, but the rows without marks are in lots of their own.
        books = (catalog.SAME, catalog.SAME)
        finest = tuple(tuple((told,) for told in numbered_rows(books, length)) for length in range(3))
        self.assertTrue(is_stable_again(books, 2, finest))
        self.assertIs(shows_alike(*books, 2, ("alike", finest)), False)
        self.assertIs(shows_alike(*books, 2, ("alike", lots(books, 2))), True)
        for value in any_values() + [family, ("alike",), ("alike", family, ()), ("Alike", family)]:
            for told in (value, ("alike", value), ("unlike", value), (value, family)):
                if value != family and told != ("alike", family):
                    self.assertIs(shows_alike(one, other, 1, told), False)

    def test_both_books_in_one(self):
        # What is joined counts more.
        both = joined(catalog.EQUAL, catalog.ONE)
        self.assertEqual(alike(both, catalog.EQUAL, 1)[0], "unlike")


class LeastWidth(unittest.TestCase):
    def test_all_pairs(self):
        seen = {}
        for one, other in itertools.product(catalog.BOOKS, repeat=2):
            if not catalog.is_one_sort(one, other):
                expect_very(self, OtherKinds, other, least_width, one, other)
                continue
            wanted = None
            for k in range(1, max(len(one), len(other)) + 1):
                if how_many_rows((one, other), k) > 130:
                    wanted = how_many_rows((one, other), k)
                    break
                if not are_alike((one, other), k):
                    wanted = (k,)
                    break
            if isinstance(wanted, int):
                expect(self, TooMany, wanted, least_width, one, other)
            elif wanted is None:
                self.assertIsNone(least_width(one, other))
            else:
                found = least_width(one, other)
                self.assertEqual((type(found), len(found), found[0]), (tuple, 2, wanted[0]))
                self.assertIs(shows_alike(one, other, found[0], ("unlike", found[1])), True)
                self.assertTrue(all(alike(one, other, k)[0] == "alike" for k in range(1, found[0])))
            seen[wanted[0] if isinstance(wanted, tuple) else type(wanted)] = True
        self.assertEqual(set(seen), {1, 2, int, type(None)})

    def test_two_great_books(self):
        expect(self, TooMany, 170, least_width, catalog.SQUARE, renamed(catalog.SQUARE, ("p", "q", "r", "s")))
        self.assertEqual(least_width(catalog.SQUARE, catalog.CHAIN)[0], 1)
        self.assertIsNone(least_width(catalog.PATH, catalog.PATH))
        self.assertEqual(least_width(catalog.EQUAL, catalog.book(0, [1, 1], "1 1 1 1"))[0], 2)


class SeveralBooks(unittest.TestCase):
    def several(self, chance):
        """Tuples of two to five books of one sort, some of them alike, and a width."""
        for by in (0, 0, 2, 3, 5):
            for many in (2, 3, 4, 5):
                books = [draw_book(chance, by, chance.randint(1, 2), kinds=("k",)) for _ in range(many)]
                books[-1] = chance.choice(books)
                yield tuple(books), chance.randint(1, 3)
        ones = [catalog.ONE, catalog.book(0, [1, 1], "3 3 3 3"), catalog.EQUAL, catalog.book(0, [1, 1], "1 1 1 1"), catalog.SAME, catalog.ODD]
        for many in (2, 3, 4, 5):
            for k in (1, 2, 3):
                for books in itertools.islice(itertools.permutations(ones, many), 0, 90, 17):
                    yield books, k

    def wanted(self, books, k):
        lots = []
        for at, book in enumerate(books):
            for lot in lots:
                if are_alike((books[lot[0]], book), k):
                    lot.append(at)
                    break
            else:
                lots.append([at])
        return tuple(tuple(lot) for lot in lots)

    def right(self, books, k, value):
        """Whether a value is what parted tells, by its own working out."""
        kinds = self.wanted(books, k)
        if type(value) is not tuple or len(value) > len(kinds) - 1 or not all(fits_again(books[0], k, (), text) for text in value):
            return False
        counts = [tuple(worths_again(book, text) for text in value) for book in books]
        return all(counts[one] != counts[other] for lot in kinds for its in kinds if lot != its for one in lot for other in its)

    def test_kinds_and_parted(self):
        seen = set()
        for books, k in self.several(random.Random(133)):
            if how_many_rows(books, k) > 130:
                expect(self, TooMany, how_many_rows(books, k), kinds_of, books, k)
                expect(self, TooMany, how_many_rows(books, k), parted, books, k)
                continue
            kinds = self.wanted(books, k)
            self.assertEqual(kinds_of(books, k), kinds)
            found = parted(books, k)
            self.assertTrue(self.right(books, k, found))
            self.assertIs(shows_parted(books, k, found), True)
            self.assertIs(shows_parted(books, k, found[::-1]), True)
            self.assertIs(shows_parted(books, k, list(found)), False)
            seen.add(len(kinds))
            for value in (found[1:], found + found[:1], found + ("script\nx = one",), found[:-1] + ("script\nx = one",)):
                self.assertIs(shows_parted(books, k, value), self.right(books, k, value))
        self.assertEqual(seen, {1, 2, 3, 4, 5})

    def test_near_values(self):
        right = wrong = 0
        for books, k in (((catalog.EQUAL, catalog.SAME), 1), ((catalog.EQUAL, catalog.SAME, catalog.ODD), 2), ((catalog.BY_TWO, catalog.BY_TWO_ONE), 1),
                         ((catalog.ONE, catalog.EQUAL, catalog.ALL_TWINS, catalog.ONE), 2)):
            found = parted(books, k)
            for at, text in enumerate(found):
                for near in near_texts(text) + [ROADS]:
                    value = found[:at] + (near,) + found[at + 1:]
                    shown = self.right(books, k, value)
                    self.assertIs(shows_parted(books, k, value), shown, near)
                    right += shown
                    wrong += not shown
                for near in any_values():
                    self.assertIs(shows_parted(books, k, found[:at] + (near,) + found[at + 1:]), False)
            for value in any_values() + [(found,), found[0] if found else None]:
                self.assertIs(shows_parted(books, k, value), False)
        self.assertTrue(right > 20 and wrong > 100, (right, wrong))

    def test_one_kind(self):
        books = (catalog.EQUAL, catalog.EQUAL, catalog.EQUAL)
        self.assertEqual([kinds_of(books, 2), parted(books, 2)], [((0, 1, 2),), ()])
        for value in any_values() + [("script\nx = one",), [], ((),)]:
            self.assertIs(shows_parted(books, 2, value), value == () and type(value) is tuple)

    def test_one_script_may_part_all(self):
        books = (catalog.ONE, catalog.EQUAL, catalog.book(0, [4], "1"), catalog.book(0, [7], "2"))
        lone = "script\nx = one 1\ny = close 1 x"
        self.assertEqual(len(kinds_of(books, 1)), 4)
        # Counts 2, 2, 4, 7: all but the first two are parted by it.
        self.assertIs(shows_parted(books, 1, (lone,)), False)
        self.assertIs(shows_parted(books[1:], 1, (lone,)), True)
        self.assertIs(shows_parted(books, 1, (lone, "script\nx = road k 1 1\ny = close 1 x")), True)

    def test_just_as_many_rows_as_are_let(self):
        books = (catalog.SQUARE, catalog.SAME, catalog.EQUAL, catalog.SAME)
        self.assertEqual(how_many_rows(books, 3), 130)
        self.assertEqual(kinds_of(books, 3), ((0,), (1, 3), (2,)))
        self.assertIs(shows_parted(books, 3, parted(books, 3)), True)
        books = (catalog.PATH, catalog.ONE, catalog.ONE)
        for call, *more in ((kinds_of,), (parted,), (shows_parted, ())):
            expect(self, TooMany, 131, call, books, 4, *more)
        self.assertEqual(kinds_of(books[:2], 4), ((0,), (1,)))

    def test_the_most_rows(self):
        books = (catalog.SQUARE,) * 5
        expect(self, TooMany, 5 * 85, kinds_of, books, 3)
        self.assertEqual(kinds_of(books, 2), ((0, 1, 2, 3, 4),))
        self.assertEqual(how_many_rows(books, 2), 105)
        self.assertEqual(kinds_of((catalog.PATH, catalog.SQUARE, catalog.ONE), 3), ((0,), (1,), (2,)))
        self.assertEqual(how_many_rows((catalog.PATH, catalog.SQUARE, catalog.ONE), 3), 129)


class Errors(unittest.TestCase):
    def test_two_books(self):
        for other in (catalog.BY_TWO, catalog.TWO_KINDS, Book(catalog.SAME.text.replace("kind k", "kind kk"))):
            for k in (1, 4, 0, None):
                expect_very(self, OtherKinds, other, alike, catalog.SAME, other, k)
                expect_very(self, OtherKinds, other, shows_alike, catalog.SAME, other, k, None)
        turned = Book("book 0\nmark a 1\nkind l 1\nkind k 1")
        expect_very(self, OtherKinds, turned, alike, Book("book 0\nmark a 1\nkind k 1\nkind l 1"), turned, 1)
        for k in any_values() + [0, 5, True]:
            if type(k) is not int or not 1 <= k <= 4:
                expect_very(self, BadWidth, k, alike, catalog.SQUARE, catalog.SQUARE, k)
                expect_very(self, BadWidth, k, shows_alike, catalog.SQUARE, catalog.SQUARE, k, None)
        expect(self, TooMany, 170, alike, catalog.SQUARE, catalog.SQUARE, 3)
        expect(self, TooMany, 170, shows_alike, catalog.SQUARE, catalog.SQUARE, 3, None)

    def test_several_books(self):
        good = catalog.SAME
        for value in any_values() + [good, (), (good,), [good, good], (good,) * 6, (good, None), (good, good.text), ((good, good),)]:
            for k in (1, 0, None):
                expect_very(self, BadBooks, value, kinds_of, value, k)
                expect_very(self, BadBooks, value, parted, value, k)
                expect_very(self, BadBooks, value, shows_parted, value, k, ())
        # The first one that is of another sort than the first book.
        for books, other in (((good, catalog.BY_TWO, catalog.TWO_KINDS), catalog.BY_TWO), ((good, catalog.ODD, catalog.TWO_KINDS, catalog.BY_TWO), catalog.TWO_KINDS)):
            for k in (1, 0, None):
                expect_very(self, OtherKinds, other, kinds_of, books, k)
                expect_very(self, OtherKinds, other, parted, books, k)
                expect_very(self, OtherKinds, other, shows_parted, books, k, None)
        for k in any_values() + [0, 5, True]:
            if type(k) is not int or not 1 <= k <= 4:
                for call, *more in ((kinds_of,), (parted,), (shows_parted, None)):
                    expect_very(self, BadWidth, k, call, (catalog.SQUARE,) * 5, k, *more)
        expect(self, TooMany, 341 * 2, shows_parted, (catalog.SQUARE,) * 2, 4, None)

    def test_scripts_that_part_are_scripts(self):
        for text in parted((catalog.ONE, catalog.EQUAL, catalog.SAME), 2):
            self.assertEqual(Script(text).gates, ())


if __name__ == "__main__":
    unittest.main()
