"""The bases of the papers."""

from latechunks.papers import Denial, Paper
from tests.helper import Case


class PapersTest(Case):
    def test_denial_is_below_paper(self):
        self.assertEqual((Paper.__bases__, Denial.__bases__), ((object,), (Paper,)))

    def test_papers_are_true_and_denials_are_false(self):
        class Yes(Paper):
            pass

        class No(Denial):
            pass

        self.assertIs(bool(Yes()), True)
        self.assertIs(bool(No()), False)
