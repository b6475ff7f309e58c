"""The examples of the document, as they stand in examples.txt: each goes on with the names of those ahead of it."""

import os

from latechunks.errors import LateError
from tests.helper import Case

PROMPT = ">>> "


def rows_of_examples():
    """The pairs of a code row and the row of what it answers, None if nothing is told."""
    with open(os.path.join(os.path.dirname(__file__), "examples.txt"), encoding="ascii") as file:
        rows = file.read().split("\n")
    for at, row in enumerate(rows):
        if row.startswith(PROMPT):
            behind = rows[at + 1] if at + 1 < len(rows) else ""
            yield row[len(PROMPT):], None if behind.startswith((PROMPT, "#")) or not behind else behind


def answer_of(code, names):
    """What Python shows of an example; of an error, its class and its fields."""
    try:
        try:
            compiled = compile(code, "example", "eval")
        except SyntaxError:
            exec(code, names)
            return None
        answer = eval(compiled, names)
        return None if answer is None else repr(answer)
    except LateError as error:
        return f"raises {type(error).__name__}({', '.join(repr(value) for value in vars(error).values())})"


class ExamplesTest(Case):
    def test_examples(self):
        names = {}
        count = 0
        for code, answer in rows_of_examples():
            with self.subTest(code=code):
                told = answer_of(code, names)
                expected = answer.replace('"', "'") if answer and answer.startswith("raises ") else answer
                self.assertEqual(told, expected)
                count += 1
        self.assertGreater(count, 10)
