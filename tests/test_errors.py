"""The refusals: ValeError and the thirteen classes straight under it."""

import unittest

from beaconvale import errors
from beaconvale.errors import ValeError

NAMES = (
    "BadGround", "OffGround", "BadFog", "BadName", "Twice", "TooMany", "BadHour",
    "NoBeacon", "Beside", "BadLine", "BadNumber", "NoFog", "NothingBack",
)


def refusals():
    return [getattr(errors, name) for name in NAMES]


class RefusalsTest(unittest.TestCase):
    def test_vale_error_stands_straight_under_value_error(self):
        self.assertEqual(ValeError.__bases__, (ValueError,))

    def test_each_stands_straight_under_vale_error(self):
        self.assertEqual(len(set(refusals())), 13)
        for refusal in refusals():
            self.assertEqual(refusal.__bases__, (ValeError,), refusal)

    def test_each_bears_its_own_name(self):
        for name in NAMES:
            self.assertEqual(getattr(errors, name).__name__, name)

    def test_each_is_taken_by_its_own_class_and_those_above_alone(self):
        for raised in refusals():
            for taker in (raised, ValeError, ValueError):
                with self.assertRaises(taker):
                    raise raised("refused")
            for other in refusals():
                if other is not raised:
                    self.assertNotIsInstance(raised("refused"), other)


if __name__ == "__main__":
    unittest.main()
