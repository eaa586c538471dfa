import unittest

from unsewn import errors
from unsewn.kinds import is_order
from unsewn.quotients import over

FAMILIES = {
    "PaperError": {"InvalidPaper": ("word", "at")},
    "BookError": {"NotUsable": ("word", "at"), "Unsound": ("reason",), "Torn": ("finds",)},
    "LiveError": {"InvalidEvent": ("event", "reason"), "NothingToUndo": ("steps",)},
    "TextError": {"InvalidText": ("line", "field"), "InvalidRow": ("row",)},
}


class TestErrors(unittest.TestCase):
    def all_errors(self):
        for family, rows in FAMILIES.items():
            for name, fields in rows.items():
                yield getattr(errors, family), getattr(errors, name), fields

    def test_families(self):
        self.assertEqual(errors.UnsewnError.__bases__, (ValueError,))
        for family in FAMILIES:
            self.assertEqual(getattr(errors, family).__bases__, (errors.UnsewnError,))
        for family, error, _ in self.all_errors():
            self.assertEqual(error.__bases__, (family,))

    def test_all_are_defined_in_the_module(self):
        for family, error, _ in self.all_errors():
            self.assertEqual(error.__module__, "unsewn.errors")
            self.assertEqual(family.__module__, "unsewn.errors")

    def test_fields_are_kept_as_they_are(self):
        for _, error, fields in self.all_errors():
            values = [[at, (None, "x")] for at in range(len(fields))]
            for made in (error(*values), error(**dict(zip(fields, values)))):
                self.assertEqual(set(vars(made)), set(fields))
                for name, value in zip(fields, values):
                    self.assertIs(getattr(made, name), value)

    def test_exactly_the_fields(self):
        for _, error, fields in self.all_errors():
            for wrong in ((), fields[1:], fields + ("more",)):
                with self.assertRaises(TypeError):
                    error(*wrong)
            with self.assertRaises(TypeError):
                error(**{name + "s": 0 for name in fields})

    def test_errors_are_raised_with_the_name_and_no_place(self):
        with self.assertRaises(errors.NotUsable) as caught:
            is_order(-1, ())
        self.assertEqual(vars(caught.exception), {"word": "many", "at": -1})
        with self.assertRaises(errors.UnsewnError):
            over((1, 1), (0, 1))
        with self.assertRaises(ValueError):
            over((1, 1), (0, 1))
