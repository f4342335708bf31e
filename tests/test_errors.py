import unittest

from cutledger import errors

FIELDS = {
    "BadRow": (), "BadPlace": (), "BadNumber": (), "BadCode": ("at",), "BadText": (), "BadThing": (),
    "BadFlips": (), "BadBlock": (), "BadLabel": (), "BadShape": (), "BadImage": ("index",), "BadPage": (),
    "BadState": (), "BadBatch": ("index",), "Harmed": ("page",), "BadCommit": (), "BadDeeds": ("index",),
    "RingFull": ("index",), "BadCut": (), "BadCount": (), "BadRatio": (), "BadStory": ("index",),
    "BadBatches": ("index",), "BadString": (), "BadLine": ("line", "word"), "TooMany": ("most",),
    "BadPages": (), "NoRoom": (), "BadEntry": (), "BadKey": (), "BadName": (), "BadSchema": (),
    "NoTable": ("name",), "Taken": ("name",), "Clash": ("table",), "Ended": (), "TooWide": (),
    "BadWords": ("at",), "BadQuestion": (), "Broken": ("name",), "BadHarm": ("index",),
}


class Errors(unittest.TestCase):
    def test_the_base_class(self):
        self.assertEqual(errors.CutError.__bases__, (ValueError,))

    def test_each_class_stands_there_and_is_a_direct_subclass(self):
        for name in FIELDS:
            with self.subTest(name):
                self.assertEqual(getattr(errors, name).__bases__, (errors.CutError,))
                self.assertEqual(getattr(errors, name).__module__, "cutledger.errors")

    def test_no_other_class_stands_there(self):
        found = [name for name, value in vars(errors).items() if isinstance(value, type)]
        self.assertEqual(sorted(found), sorted([*FIELDS, "CutError"]))

    def test_fields(self):
        for name, fields in FIELDS.items():
            with self.subTest(name):
                values = [f"value {at}" for at in range(len(fields))]
                one = getattr(errors, name)(*values)
                self.assertEqual(vars(one), dict(zip(fields, values)))
                if fields:
                    other = getattr(errors, name)(**dict(zip(fields, values)))
                    self.assertEqual(vars(other), dict(zip(fields, values)))

    def test_fields_are_not_left_out(self):
        for name, fields in FIELDS.items():
            if fields:
                with self.subTest(name):
                    self.assertRaises(TypeError, getattr(errors, name))


if __name__ == "__main__":
    unittest.main()
