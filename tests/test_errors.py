from unittest import TestCase

from guardhopes import errors
from tests.values import SaysEqual, some_values

BASES = {"BadValue": ValueError, "BadName": LookupError, "NoAnswer": ArithmeticError}
KINDS = {
    "BadValue": {
        "given": [
            "InvalidText", "InvalidLetters", "InvalidWord", "InvalidLasso", "InvalidVerdict", "InvalidName",
            "InvalidChange", "InvalidDemand", "InvalidIndex", "NotAMachine", "OtherLetters",
        ],
        "index": ["InvalidStates", "InvalidChanges", "InvalidDemands"],
    },
    "BadName": {"given": ["UnknownName"], "index": ["InUse"]},
    "NoAnswer": {None: ["NothingToUndo"], "most": ["TooLong"], "index": ["Broken"]},
}
ROWS = [
    (name, base, attribute)
    for base, parts in KINDS.items() for attribute, names in parts.items() for name in names
]


class ErrorsTest(TestCase):
    def test_all_classes_are_there_and_defined_there(self):
        for name in [*BASES, *[row[0] for row in ROWS]]:
            with self.subTest(name):
                self.assertEqual(getattr(errors, name).__module__, "guardhopes.errors")

    def test_made_by_position_and_by_name(self):
        for name, _, attribute in ROWS:
            if attribute is None:
                continue
            kind = getattr(errors, name)
            for value in [*some_values(), errors.BadValue(), kind]:
                with self.subTest(name):
                    self.assertIs(getattr(kind(value), attribute), value)
                    self.assertIs(getattr(kind(**{attribute: value}), attribute), value)

    def test_made_with_just_one_value(self):
        for name, _, attribute in ROWS:
            if attribute is None:
                continue
            with self.subTest(name):
                with self.assertRaises(TypeError):
                    getattr(errors, name)()
                with self.assertRaises(TypeError):
                    getattr(errors, name)(1, 2)
                other = "given" if attribute != "given" else "index"
                self.assertFalse(hasattr(getattr(errors, name)(1), other))

    def test_made_with_nothing(self):
        for name in [*BASES, "NothingToUndo"]:
            with self.subTest(name):
                made = getattr(errors, name)()
                self.assertEqual(made.args, ())
                for attribute in ("given", "index", "most"):
                    self.assertFalse(hasattr(made, attribute))

    def test_each_base_is_one_of_its_python_class(self):
        for name, python in BASES.items():
            with self.subTest(name):
                self.assertEqual(getattr(errors, name).__bases__, (python,))

    def test_each_kind_belongs_to_its_base_alone(self):
        kinds = {name: getattr(errors, name) for name in [*BASES, *[row[0] for row in ROWS]]}
        for name, base, _ in ROWS:
            for other, kind in kinds.items():
                with self.subTest(name, other=other):
                    self.assertEqual(issubclass(kinds[name], kind), other in (name, base))
            ours = [kind for kind in kinds[name].__mro__ if kind.__module__.startswith("guardhopes")]
            self.assertEqual(ours, [kinds[name], kinds[base]])
            for other in (ValueError, LookupError, ArithmeticError):
                self.assertEqual(issubclass(kinds[name], other), other is BASES[base])

    def test_raised_and_caught_by_each_class(self):
        for name, base, attribute in ROWS:
            made = getattr(errors, name)() if attribute is None else getattr(errors, name)("x")
            for caught in (getattr(errors, name), getattr(errors, base), BASES[base], Exception):
                with self.subTest(name, caught=caught):
                    with self.assertRaises(caught) as raised:
                        raise made
                    self.assertIs(raised.exception, made)

    def test_true_and_equal_only_to_themselves(self):
        for name, _, attribute in ROWS:
            make = getattr(errors, name)
            one, other = (make(), make()) if attribute is None else (make(0), make(0))
            with self.subTest(name):
                self.assertTrue(one)
                self.assertTrue(one == one)
                self.assertFalse(one != one)
                self.assertFalse(one == other)
                self.assertTrue(one != other)

    def test_a_value_that_says_it_is_equal_is_kept_too(self):
        value = SaysEqual()
        self.assertIs(errors.InUse(index=value).index, value)
