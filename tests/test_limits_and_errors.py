"""rowreaders.limits and rowreaders.errors."""

from helpers import STRANGE, Case

from rowreaders import errors, limits

CONSTANTS = {
    "MOST_SIGNS": 8, "MOST_STANDS": 200, "MOST_GUESSED": 12, "MOST_ROW": 200, "MOST_LISTED": 1000, "MOST_WORD": 4,
    "MOST_DEEDS": 500, "MOST_LOOKS": 2000, "MOST_SIZE": 6, "MOST_WEIGHED": 36, "MOST_LED": 12, "MOST_PARTED": 8,
    "MOST_CHANGES": 60,
}
WITH_GIVEN = [
    "InvalidSigns", "InvalidArrows", "InvalidEnds", "InvalidRow", "InvalidNumber", "InvalidStand", "InvalidSign",
    "InvalidBook", "InvalidPlan", "InvalidSteps", "InvalidWeights", "InvalidOutputs", "InvalidMarks",
    "InvalidFormula", "InvalidTold", "InvalidText", "InvalidName", "InvalidClaim", "InvalidIndex", "InvalidLine",
    "NotAReader", "NotAGuesser", "NotAWeigher", "NotAWriter", "NotAWatcher",
]
# name: (base, Python's own base, attribute)
CLASSES = {name: ("WrongValue", ValueError, "given") for name in WITH_GIVEN}
CLASSES.update({
    "InvalidDeeds": ("WrongValue", ValueError, "index"),
    "InvalidLog": ("WrongValue", ValueError, "index"),
    "UnknownName": ("WrongName", LookupError, "given"),
    "InUse": ("WrongName", LookupError, "index"),
    "UnlikeSigns": ("NoAnswer", ArithmeticError, None),
    "NotFull": ("NoAnswer", ArithmeticError, None),
    "TooMany": ("NoAnswer", ArithmeticError, "limit"),
    "NothingToUndo": ("NoAnswer", ArithmeticError, None),
    "Broken": ("NoAnswer", ArithmeticError, "index"),
})
BASES = {"WrongValue": ValueError, "WrongName": LookupError, "NoAnswer": ArithmeticError}


class LimitsTest(Case):
    def test_constants(self):
        for name, value in CONSTANTS.items():
            self.assertEqual(getattr(limits, name), value)
            self.assertIs(type(getattr(limits, name)), int)


class ErrorsTest(Case):
    def test_made_with_their_attribute(self):
        for name, (_, _, attribute) in CLASSES.items():
            made = getattr(errors, name)
            if attribute is None:
                self.assertIs(type(made()), made)
                continue
            for value in STRANGE + [0, 5, "abc", (1, (2, 3))]:
                self.assertIs(getattr(made(value), attribute), value)
                self.assertIs(getattr(made(**{attribute: value}), attribute), value)

    def test_bases_are_made_with_nothing(self):
        for name, own in BASES.items():
            base = getattr(errors, name)
            self.assertEqual(base.__bases__, (own,))
            self.assertIsInstance(base(), own)

    def test_each_stands_under_its_base_alone(self):
        for name, (base, own, _) in CLASSES.items():
            made = getattr(errors, name)
            self.assertEqual(made.__bases__, (getattr(errors, base),))
            self.assertTrue(issubclass(made, own))
            for other in list(CLASSES) + list(BASES):
                if other not in (name, base):
                    self.assertFalse(issubclass(made, getattr(errors, other)), (name, other))

    def test_defined_in_their_file(self):
        for name in list(CLASSES) + list(BASES):
            self.assertEqual(getattr(errors, name).__module__, "rowreaders.errors")

    def test_raised_and_caught_under_the_base(self):
        with self.assertRaises(errors.WrongValue) as caught:
            raise errors.InvalidRow("x")
        self.assertEqual(caught.exception.given, "x")
        with self.assertRaises(ArithmeticError) as caught:
            raise errors.TooMany(200)
        self.assertEqual(caught.exception.limit, 200)
        with self.assertRaises(LookupError) as caught:
            raise errors.InUse(3)
        self.assertEqual(caught.exception.index, 3)
