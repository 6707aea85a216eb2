"""The examples of the document, word for word."""

import doctest
import pathlib
import unittest

FOLDER = pathlib.Path(__file__).parent / "examples"
SHARED = pathlib.Path(__file__).parent.parent.parent / "shared" / "DOC.md"
HOW_MANY = {"books": 9, "scripts": 7, "nets": 9, "tables": 11, "arounds": 9, "spans": 8, "lots": 9,
            "made": 11, "nothing": 10, "alike": 12, "lengths": 14, "yard": 12, "desk": 6}


class Examples(unittest.TestCase):
    def run_examples(self, name):
        text = (FOLDER / f"{name}.txt").read_text()
        test = doctest.DocTestParser().get_doctest(text, {}, name, str(FOLDER), 0)
        told = []
        result = doctest.DocTestRunner(verbose=False).run(test, out=told.append)
        self.assertEqual(result.failed, 0, "".join(told))
        self.assertEqual(result.attempted, HOW_MANY[name])

    def test_books(self):
        self.run_examples("books")

    def test_scripts(self):
        self.run_examples("scripts")

    def test_nets(self):
        self.run_examples("nets")

    def test_tables(self):
        self.run_examples("tables")

    def test_arounds(self):
        self.run_examples("arounds")

    def test_spans(self):
        self.run_examples("spans")

    def test_lots(self):
        self.run_examples("lots")

    def test_made(self):
        self.run_examples("made")

    def test_nothing(self):
        self.run_examples("nothing")

    def test_alike(self):
        self.run_examples("alike")

    def test_lengths(self):
        self.run_examples("lengths")

    def test_yard(self):
        self.run_examples("yard")

    def test_desk(self):
        self.run_examples("desk")

    @unittest.skipUnless(SHARED.exists(), "the document is not beside this checkout")
    def test_these_are_the_words_of_the_document(self):
        document = SHARED.read_text()
        for name in HOW_MANY:
            self.assertIn((FOLDER / f"{name}.txt").read_text(), document)


if __name__ == "__main__":
    unittest.main()
