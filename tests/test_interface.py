"""The names, arguments and defaults of the interface, as the document tells them."""

import importlib
import inspect
import unittest

CALLS = {
    "limbs": ["natural_of(number)", "number_of(natural)", "trimmed(limbs)"],
    "sums": [
        "compared(one, other)", "plus(one, other)", "minus(one, other)", "total_of(naturals)", "carries(one, other)",
    ],
    "bits": [
        "and_of(one, other)", "or_of(one, other)", "xor_of(one, other)", "moved_up(natural, count=1)",
        "moved_down(natural, count=1)", "bit_at(natural, place)", "bits_of(natural)", "ones_of(natural)",
    ],
    "products": [
        "times_limb(natural, limb)", "times(one, other)", "squared(natural)", "power_of(natural, count)",
        "rows_of(one, other)",
    ],
    "halves": ["halves_of(natural, count)", "split_of(one, other)", "times_split(one, other, least=8)"],
    "division": ["parted_limb(natural, limb)", "parted(one, other)", "steps_of(one, other)"],
    "commons": ["common_of(one, other)"],
    "roots": ["power_rest(natural, count, other)", "root_of(natural, count=2)"],
    "wholes": [
        "whole_of(number)", "value_of(whole)", "turned(whole)", "sized(whole)", "ranked(one, other)",
        "added(one, other)", "taken(one, other)", "multiplied(one, other)", "raised(whole, count)",
    ],
    "quotients": ["divided(one, other, way='down')"],
    "twos": [
        "whole_and(one, other)", "whole_or(one, other)", "whole_xor(one, other)", "inverted(whole)",
        "shifted(whole, count)",
    ],
    "bonds": ["bonds_of(one, other)"],
    "fractions": [
        "fraction_of(above, below=None)", "frac_plus(one, other)", "frac_minus(one, other)", "frac_times(one, other)",
        "frac_over(one, other)", "frac_power(fraction, count)", "frac_ranked(one, other)",
    ],
    "wholing": ["nearest_whole(fraction, way='half_even')"],
    "chains": ["chain_of(fraction)", "unchained(wholes)", "approaches(fraction)", "closest(fraction, most)"],
}


class InterfaceTest(unittest.TestCase):
    def test_each_call_is_there_as_it_stands(self):
        for file, calls in CALLS.items():
            module = importlib.import_module("endless." + file)
            for call in calls:
                with self.subTest(call):
                    name = call.partition("(")[0]
                    self.assertEqual(name + str(inspect.signature(getattr(module, name))), call)


if __name__ == "__main__":
    unittest.main()
