"""The errors."""

import inspect

from latechunks import errors
from latechunks.errors import LateError
from tests.helper import Case, everything

FIELDS = {
    "BadName": "value", "BadSize": "value", "BadSpeed": "value", "BadCost": "value", "BadFee": "value",
    "BadTotal": "value", "BadLimit": "value", "BadRatio": "value", "BadRest": "value", "BadChunks": "part",
    "BadCrew": "part", "BadSetting": "part", "BadWorld": "part", "BadRule": "part", "BadLog": "part",
    "BadLoop": "part", "BadPool": "part", "BadPaper": "part", "BadText": "line word", "BadLine": "word",
    "NoWorker": "name", "NoChunk": "at", "NoLoop": "name", "TooMany": "what most", "TooStrict": "limit", "Nothing": "",
}


class ErrorsTest(Case):
    def test_all_are_there_and_no_other(self):
        classes = [name for name, _ in inspect.getmembers(errors, inspect.isclass)]
        self.assertEqual(sorted(classes), sorted([*FIELDS, "LateError"]))
        for name in classes:
            self.assertEqual(getattr(errors, name).__module__, "latechunks.errors")

    def test_the_base(self):
        self.assertEqual(LateError.__bases__, (ValueError,))
        self.assertTrue(issubclass(LateError, Exception))

    def test_directly_below_the_base(self):
        for name in FIELDS:
            self.assertEqual(getattr(errors, name).__bases__, (LateError,), name)

    def test_fields_by_position_and_by_name(self):
        for name, fields in FIELDS.items():
            made = getattr(errors, name)
            fields = fields.split()
            for value in everything():
                worths = [value, 5][:len(fields)]
                self.fields_are(made(*worths), fields, worths)
                self.fields_are(made(**dict(zip(fields, worths))), fields, worths)
                self.fields_are(made(**dict(reversed(list(zip(fields, worths))))), fields, worths)

    def fields_are(self, error, fields, worths):
        self.assertEqual(sorted(vars(error)), sorted(fields))
        for field, worth in zip(fields, worths):
            self.assertIs(getattr(error, field), worth)

    def test_both_fields_hold_any_values(self):
        for value in everything():
            self.assertIs(errors.BadText(0, value).word, value)
            self.assertIs(errors.TooMany("chunks", most=value).most, value)

    def test_they_are_raised_and_caught(self):
        for name, fields in FIELDS.items():
            made = getattr(errors, name)
            worths = [3, 4][:len(fields.split())]
            with self.assertRaises(made):
                raise made(*worths)
            with self.assertRaises(LateError):
                raise made(*worths)
            with self.assertRaises(ValueError):
                raise made(*worths)

    def test_fields_are_needed(self):
        for name, fields in FIELDS.items():
            with self.assertRaises(TypeError):
                getattr(errors, name)(*[0] * (len(fields.split()) - 1 if fields else 1), **({} if fields else {"x": 0}))
