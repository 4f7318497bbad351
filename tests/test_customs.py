"""[2.1], [2.2], [2.3]: clauses, customs and their numbers."""

import random
import unittest
from itertools import product

from helpers import NO_NUMBERS, caught
from landways.customs import (CLAUSES, Custom, custom_at, custom_rows, customs, differences, numbers_among,
                              words)

WORDS = {
    "untold": ("stay", "die", "needed stay"),
    "joined": ("die", "sleep"),
    "sold": ("none", "all", "beside", "need"),
    "kept": ("none", "all", "beside", "need"),
    "ends": ("never", "free"),
}
ROWS = list(product(*WORDS.values()))
NO_CLAUSES = ("", "Untold", "stay", "row", "number", None, 0, True, ["sold"], ("sold",), {}, b"sold")
EXAMPLE = Custom("stay", "sleep", "none", "need", "free")


class Words(unittest.TestCase):

    def test_clauses_and_words(self):
        self.assertEqual(CLAUSES, ("untold", "joined", "sold", "kept", "ends"))
        for clause in CLAUSES:
            self.assertEqual(words(clause), WORDS[clause])

    def test_what_is_no_clause(self):
        for thing in NO_CLAUSES:
            self.assertEqual(caught(lambda: words(thing)), ("BadClause", "clause"))


class Making(unittest.TestCase):

    def test_attributes(self):
        for row in ROWS:
            custom = Custom(*row)
            self.assertEqual((custom.untold, custom.joined, custom.sold, custom.kept, custom.ends), row)
            self.assertEqual(custom.row, row)
            self.assertIsInstance(custom.row, tuple)
            self.assertEqual(tuple(custom), row)
            self.assertEqual(list(custom), list(row))

    def test_by_name(self):
        custom = Custom(ends="free", kept="need", sold="none", joined="sleep", untold="stay")
        self.assertEqual(custom, EXAMPLE)

    def test_wrong_words(self):
        right = ["stay", "die", "all", "need", "free"]
        for place, clause in enumerate(CLAUSES):
            for thing in ("", "Stay", "needed", "awake", None, True, 0, ["stay"], ("die",), {}, clause):
                row = list(right)
                row[place] = thing
                self.assertEqual(caught(lambda: Custom(*row)), ("BadCustom", clause))
                row[place:] = [thing] * (5 - place)
                self.assertEqual(caught(lambda: Custom(*row)), ("BadCustom", clause))

    def test_words_of_other_clauses(self):
        self.assertEqual(caught(lambda: Custom("sleep", "x", "x", "x", "x")), ("BadCustom", "untold"))
        self.assertEqual(caught(lambda: Custom("die", "needed stay", "x", "x", "x")), ("BadCustom", "joined"))
        self.assertEqual(caught(lambda: Custom("die", "die", "die", "x", "x")), ("BadCustom", "sold"))
        self.assertEqual(caught(lambda: Custom("die", "die", "all", "never", "x")), ("BadCustom", "kept"))
        self.assertEqual(caught(lambda: Custom("die", "die", "all", "all", "all")), ("BadCustom", "ends"))

    def test_equal(self):
        for one in ROWS[::17]:
            for other in ROWS[::5]:
                self.assertIs(Custom(*one) == Custom(*other), one == other)
        for thing in (EXAMPLE.row, list(EXAMPLE.row), 39, None, "custom"):
            self.assertFalse(EXAMPLE == thing)


class Asking(unittest.TestCase):

    def test_word(self):
        for clause, word in zip(CLAUSES, EXAMPLE.row):
            self.assertEqual(EXAMPLE.word(clause), word)
        for thing in NO_CLAUSES:
            self.assertEqual(caught(lambda: EXAMPLE.word(thing)), ("BadClause", "clause"))

    def test_changed(self):
        for place, clause in enumerate(CLAUSES):
            for word in WORDS[clause]:
                row = list(EXAMPLE.row)
                row[place] = word
                changed = EXAMPLE.changed(clause, word)
                self.assertEqual(changed.row, tuple(row))
                self.assertEqual(changed, Custom(*row))
        self.assertEqual(EXAMPLE.row, ("stay", "sleep", "none", "need", "free"))

    def test_changed_wrongly(self):
        for thing in NO_CLAUSES:
            self.assertEqual(caught(lambda: EXAMPLE.changed(thing, "x")), ("BadClause", "clause"))
        for clause in CLAUSES:
            for word in ("", "x", None, True, ["stay"], {}):
                self.assertEqual(caught(lambda: EXAMPLE.changed(clause, word)), ("BadClause", "word"))
        self.assertEqual(caught(lambda: EXAMPLE.changed("joined", "stay")), ("BadClause", "word"))

    def test_uses(self):
        custom = Custom("die", "die", "need", "need", "never")
        self.assertEqual(custom.uses("die"), ("untold", "joined"))
        self.assertEqual(custom.uses("need"), ("sold", "kept"))
        self.assertEqual(custom.uses("never"), ("ends",))
        self.assertEqual(custom.uses("all"), ())
        self.assertEqual(custom.uses(None), ())

    def test_differences(self):
        self.assertEqual(differences(EXAMPLE, EXAMPLE), ())
        self.assertEqual(differences(EXAMPLE, Custom("stay", "die", "none", "all", "free")), ("joined", "kept"))
        self.assertEqual(differences(Custom(*ROWS[0]), Custom(*ROWS[-1])), CLAUSES)


class Numbering(unittest.TestCase):

    def test_the_example(self):
        self.assertEqual(EXAMPLE.number, 39)
        self.assertEqual(custom_at(39), EXAMPLE)

    def test_all_192(self):
        self.assertEqual([custom.row for custom in customs()], ROWS)
        self.assertEqual([custom.number for custom in customs()], list(range(192)))
        for number, row in enumerate(ROWS):
            places = [WORDS[clause].index(word) for clause, word in zip(CLAUSES, row)]
            u, j, s, k, e = places
            self.assertEqual(Custom(*row).number, (((u * 2 + j) * 4 + s) * 4 + k) * 2 + e)
            self.assertEqual(custom_at(number).row, row)

    def test_it_is_a_generator(self):
        self.assertEqual(next(customs()).number, 0)

    def test_rows_of_all(self):
        self.assertEqual(custom_rows(), ROWS)
        kept = custom_rows()
        kept.clear()
        self.assertEqual(custom_rows(), ROWS)

    def test_numbers_of_all_with_some_words(self):
        source = random.Random(21)
        for _ in range(200):
            told = [tuple(word for word in WORDS[clause] if source.random() < 0.6) for clause in CLAUSES]
            self.assertEqual(numbers_among(told), tuple(number for number, row in enumerate(ROWS)
                                                        if all(word in some for word, some in zip(row, told))))
        self.assertEqual(numbers_among([WORDS[clause] for clause in CLAUSES]), tuple(range(192)))
        self.assertEqual(numbers_among([(word,) for word in EXAMPLE.row]), (39,))

    def test_other_numbers(self):
        for thing in (-1, 192, 10 ** 50, *NO_NUMBERS):
            self.assertEqual(caught(lambda: custom_at(thing)), ("BadNumber", thing))
