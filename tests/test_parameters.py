"""Each parameter of each function: what is refused, by which error, in which order; names; what is left unchanged."""

import inspect

from movedround import errors
from tests import signatures, signatures_halls, signatures_lots, signatures_walks
from tests.support import Case, anything, copied, near_misses, with_tuples

FILES = (signatures, signatures_walks, signatures_lots, signatures_halls)
SPECS = [each for file in FILES for each in file.SPECS]
BEYOND = [each for file in FILES for each in file.BEYOND]

# Of no use for any parameter that has an error.
NO_GOOD = [None, True, "x", {"a": 1}, (True,), [[0]], 1000000000, errors.TooMany(10)]


class Parameters(Case):

    def test_good_arguments_are_taken_by_position_and_by_name(self):
        for function, told, _ in SPECS:
            with self.subTest(function=function.__name__):
                self.told(function, **told)

    def test_parameters_have_their_names_and_no_defaults(self):
        for function, told, _ in SPECS:
            found = inspect.signature(function).parameters.values()
            self.assertEqual([parameter.name for parameter in found], list(told), function.__name__)
            for parameter in found:
                self.assertIs(parameter.default, inspect.Parameter.empty)
                self.assertIs(parameter.kind, inspect.Parameter.POSITIONAL_OR_KEYWORD)

    def test_each_parameter_refuses_what_is_not_as_described(self):
        for function, told, kinds in SPECS:
            for name, (error, good) in kinds.items():
                if error is None:
                    continue
                with self.subTest(function=function.__name__, parameter=name):
                    refused = 0
                    for value in anything() + list(near_misses(told[name])):
                        if not good(told, value):
                            self.refused(error, function, **{**told, name: value})
                            refused += 1
                    self.assertGreater(refused, 50)

    def test_good_values_are_not_refused(self):
        """Each near value that is good as described is taken: a look at the tests' own judge, too."""
        for function, told, kinds in SPECS:
            for name, (error, good) in kinds.items():
                if error is None or name in ("dials", "one", "other"):
                    continue
                for value in near_misses(told[name]):
                    if good(told, value) and value != told.get("second"):
                        try:
                            function(**{**copied(told), name: value})
                        except error as caught:
                            self.fail(f"{function.__name__}, {name}: {value!r} was refused: {caught!r}")
                        except errors.MoveError:
                            continue

    def test_the_left_one_of_two_wrong_parameters_is_told(self):
        for function, told, kinds in SPECS:
            names = [name for name, (error, _) in kinds.items() if error is not None]
            for at, left in enumerate(names):
                for right in names[at + 1:]:
                    for one in NO_GOOD:
                        for other in (None, (True,), {"a": 1}):
                            self.refused(kinds[left][0], function, **{**told, left: one, right: other})
                for one in NO_GOOD:
                    rest = {right: None for right in names[at + 1:]}
                    self.refused(kinds[left][0], function, **{**told, **rest, left: one})

    def test_a_list_may_be_a_tuple(self):
        for function, told, _ in SPECS:
            other = {name: with_tuples(value) for name, value in told.items()}
            self.assertEqual(self.told(function, **told), self.told(function, **other), function.__name__)

    def test_too_many_comes_behind_all_other_errors(self):
        kinds_of = {function: kinds for function, _, kinds in SPECS}
        for function, beyond, most, within in BEYOND:
            with self.subTest(function=function.__name__):
                self.too_many(most, function, **beyond)
                self.told(function, **within)
                for name, (error, _) in kinds_of[function].items():
                    if error is not None:
                        for value in NO_GOOD:
                            self.refused(error, function, **{**beyond, name: value})

    def test_any_value_is_judged_without_an_error(self):
        for function, told, _ in SPECS:
            if "thing" in told:
                for value in anything() + list(near_misses(told["thing"])):
                    self.assertIs(type(self.told(function, **{**told, "thing": value})), bool)
