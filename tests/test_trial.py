"""Trial and tried: a block behind which a predictor is as it was."""

import unittest

from pastenough.errors import NoPredictor, NothingToUndo
from pastenough.live import Predictor, Trial, tried
from tests.live_samples import LiveTest, random_pairs, told_predictor
from tests.samples import ANY_VALUES, LOOP, PAIR, TRACES, Unchanged, schemes_of

SOME_SCHEMES = schemes_of(0) + schemes_of(2) + (("own", 64), ("folded", 64, 16))


class Stopped(Exception):
    """What leaves a block here."""


class TrialTest(LiveTest):
    def same_behind(self, predictor, scheme, counter, pairs):
        """As at the beginning, with the same pairs to take back."""
        self.same_state(predictor, scheme, counter, pairs)
        other = predictor.copy()
        self.same([other.undo() for _ in pairs], list(reversed(pairs)))
        with self.assertRaises(NothingToUndo):
            other.undo()

    def test_it_gives_the_predictor_itself(self):
        predictor = Predictor(("own", 1), (2, 1))
        with Trial(predictor) as held:
            self.assertIs(held, predictor)
        with Trial(predictor=predictor) as held:
            self.assertIs(held, predictor)

    def test_the_predictor_is_as_it_was(self):
        for scheme in SOME_SCHEMES:
            for pairs in ([], random_pairs(36, 20, (0, 1, 5))):
                predictor = told_predictor(scheme, (2, 2), pairs)[0]
                with Trial(predictor) as held:
                    held.learn_all(LOOP, 3)
                    predictor.learn(5, 1)
                    self.same_state(predictor, scheme, (2, 2), pairs + list(LOOP * 3) + [(5, 1)])
                self.same_behind(predictor, scheme, (2, 2), pairs)

    def test_what_was_taken_back_is_there_again(self):
        for scheme in SOME_SCHEMES:
            pairs = random_pairs(37, 20, (0, 1, 5))
            predictor = told_predictor(scheme, (2, 2), pairs)[0]
            with Trial(predictor):
                for _ in range(12):
                    predictor.undo()
                self.same_state(predictor, scheme, (2, 2), pairs[:8])
                predictor.learn_all(PAIR, 5)
            self.same_behind(predictor, scheme, (2, 2), pairs)
            with Trial(predictor):
                while predictor.learned:
                    predictor.undo()
            self.same_behind(predictor, scheme, (2, 2), pairs)

    def test_as_many_pairs_taken_back_as_learned(self):
        pairs = random_pairs(38, 9, (0, 1))
        predictor = told_predictor(("shared", 1), (2, 1), pairs)[0]
        with Trial(predictor):
            for _ in range(5):
                predictor.undo()
            predictor.learn_all(((7, 0),), 5)
        self.same_behind(predictor, ("shared", 1), (2, 1), pairs)

    def test_a_block_that_does_nothing(self):
        predictor = told_predictor(("own", 1), (2, 1), PAIR)[0]
        with Trial(predictor):
            pass
        self.same_behind(predictor, ("own", 1), (2, 1), list(PAIR))

    def test_an_error_leaves_it(self):
        for scheme in SOME_SCHEMES:
            predictor = told_predictor(scheme, (2, 1), PAIR)[0]
            error = Stopped("on the way")
            with self.assertRaises(Stopped) as caught:
                with Trial(predictor):
                    predictor.learn_all(LOOP, 2)
                    raise error
            self.assertIs(caught.exception, error)
            self.same_behind(predictor, scheme, (2, 1), list(PAIR))
            with self.assertRaises(NothingToUndo):
                with Trial(predictor):
                    while True:
                        predictor.undo()
            self.same_behind(predictor, scheme, (2, 1), list(PAIR))

    def test_a_block_that_is_left_early(self):
        predictor = told_predictor(("own", 1), (2, 1), PAIR)[0]
        for _ in range(3):
            with Trial(predictor):
                predictor.learn(0, 1)
                break
        self.same_behind(predictor, ("own", 1), (2, 1), list(PAIR))

    def test_a_trial_within_a_trial(self):
        for scheme in SOME_SCHEMES:
            predictor = told_predictor(scheme, (2, 1), PAIR)[0]
            with Trial(predictor) as outer:
                predictor.learn(0, 1)
                with Trial(outer) as inner:
                    self.assertIs(inner, predictor)
                    for _ in range(4):
                        inner.undo()
                    inner.learn_all(LOOP, 2)
                    with self.assertRaises(Stopped):
                        with Trial(predictor):
                            predictor.learn_all(PAIR, 2)
                            raise Stopped()
                    self.same_behind(predictor, scheme, (2, 1), list(PAIR[:1] + LOOP * 2))
                self.same_behind(predictor, scheme, (2, 1), list(PAIR) + [(0, 1)])
                predictor.undo()
                predictor.undo()
            self.same_behind(predictor, scheme, (2, 1), list(PAIR))

    def test_one_trial_for_several_blocks(self):
        predictor = told_predictor(("shared", 2), (2, 1), PAIR)[0]
        trial = Trial(predictor)
        for number in range(3):
            with trial:
                predictor.learn_all(LOOP, number)
            predictor.learn(number, 1)
        self.same_behind(predictor, ("shared", 2), (2, 1), list(PAIR) + [(0, 1), (1, 1), (2, 1)])

    def test_one_trial_within_itself(self):
        predictor = told_predictor(("shared", 2), (2, 1), PAIR)[0]
        trial = Trial(predictor)
        with trial:
            predictor.learn(0, 0)
            with trial as held:
                self.assertIs(held, predictor)
                predictor.undo()
                predictor.undo()
            self.same_behind(predictor, ("shared", 2), (2, 1), list(PAIR) + [(0, 0)])
        self.same_behind(predictor, ("shared", 2), (2, 1), list(PAIR))

    def test_the_block_begins_where_it_is_entered(self):
        predictor = Predictor(("shared", 2), (2, 1))
        trial = Trial(predictor)
        predictor.learn_all(PAIR, 1)
        with trial:
            predictor.undo()
        self.same_behind(predictor, ("shared", 2), (2, 1), list(PAIR))

    def test_a_copy_that_is_made_in_the_block_stays(self):
        predictor = told_predictor(("own", 2), (2, 1), PAIR)[0]
        with Trial(predictor):
            predictor.learn(0, 1)
            other = predictor.copy()
            predictor.learn(1, 1)
            before = predictor.learned
        self.same_behind(other, ("own", 2), (2, 1), list(PAIR) + [(0, 1)])
        self.same(before, PAIR + ((0, 1), (1, 1)))
        other.learn(0, 0)
        self.same_behind(predictor, ("own", 2), (2, 1), list(PAIR))

    def test_two_predictors(self):
        one, other = told_predictor(("own", 2), (2, 1), PAIR)[0], told_predictor(("own", 2), (2, 1), LOOP)[0]
        with Trial(one), Trial(other):
            one.learn_all(LOOP, 1)
            other.learn_all(PAIR, 1)
        self.same_behind(one, ("own", 2), (2, 1), list(PAIR))
        self.same_behind(other, ("own", 2), (2, 1), list(LOOP))

    def test_large_trials(self):
        predictor = Predictor(("folded", 64, 16), (4, 7))
        predictor.learn_all(TRACES[15], 3)
        with Trial(predictor):
            predictor.learn_all(TRACES[14], 300)
        self.same_behind(predictor, ("folded", 64, 16), (4, 7), list(TRACES[15] * 3))

    def test_it_goes_on_behind_the_block(self):
        predictor = told_predictor(("own", 2), (2, 1), PAIR)[0]
        with Trial(predictor):
            predictor.learn_all(LOOP, 5)
        predictor.learn_all(PAIR, 1)
        self.same_behind(predictor, ("own", 2), (2, 1), list(PAIR * 2))

    def test_any_value(self):
        for value in ANY_VALUES + (Predictor,):
            with self.subTest(value=value), Unchanged(self, value):
                with self.assertRaises(NoPredictor):
                    Trial(value)
                with self.assertRaises(NoPredictor):
                    Trial(predictor=value)


class TriedTest(LiveTest):
    def test_plain_looks(self):
        predictor = Predictor(("shared", 2), (2, 1))
        predictor.learn(0, 1)
        predictor.learn(0, 1)
        self.same(tried(predictor, lambda one: one.learn_all(LOOP, 2)), 4)
        self.same_state(predictor, ("shared", 2), (2, 1), [(0, 1), (0, 1)])
        self.same(tried(look=lambda one: one.undo(), predictor=predictor), (0, 1))
        self.same_state(predictor, ("shared", 2), (2, 1), [(0, 1), (0, 1)])

    def test_it_returns_what_look_returns(self):
        predictor = Predictor(("shared", 2), (2, 1))
        for value in ANY_VALUES:
            self.assertIs(tried(predictor, lambda one: value), value)
        self.assertIs(tried(predictor, lambda one: one), predictor)

    def test_an_error_leaves_it(self):
        def look(one):
            one.learn_all(PAIR, 2)
            raise Stopped()

        predictor = told_predictor(("own", 1), (2, 1), LOOP)[0]
        with self.assertRaises(Stopped):
            tried(predictor, look)
        self.same_state(predictor, ("own", 1), (2, 1), LOOP)

    def test_within_another_one(self):
        def look(one):
            one.learn(5, 1)
            inner = tried(one, lambda other: other.learn_all(LOOP, 3))
            return (inner, one.learned)

        predictor = told_predictor(("own", 1), (2, 1), PAIR)[0]
        self.same(tried(predictor, look)[1], PAIR + ((5, 1),))
        self.same_state(predictor, ("own", 1), (2, 1), PAIR)

    def test_any_value(self):
        looked = []
        for value in ANY_VALUES + (Predictor,):
            with self.subTest(value=value), Unchanged(self, value):
                with self.assertRaises(NoPredictor):
                    tried(value, looked.append)
                with self.assertRaises(NoPredictor):
                    tried(look=looked.append, predictor=value)
        self.assertEqual(looked, [])


if __name__ == "__main__":
    unittest.main()
