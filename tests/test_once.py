"""once, least_marks and steady, against a walk of all stands by the test."""

from unittest.mock import patch

from layerpost import pairs
from layerpost.errors import TooMany
from layerpost.paces import Endless, Steady, steady
from layerpost.pairs import Broken, Once, Pair, events, first_stand, least_marks, once, played
from layerpost.verdicts import Verdict
from tests.helpers import Case, any_values
from tests.moves import Walk, all_pairs, hands_out

# Pairs with few stands, for slow walks.
SMALL = [pair for pair in all_pairs((1, 2, 3)) if pair.room == 1]


class OnceTest(Case):

    def test_against_a_walk(self):
        words = {}
        for pair in [*SMALL, *list(all_pairs((2, 4)))[::5]]:
            walk = Walk(pair, 600)
            with patch.object(pairs, "MOST_STANDS", 600):
                if walk.too_many:
                    self.refused(("TooMany", "stands", 600), once, pair)
                    word = "many"
                else:
                    word = self.right(walk, once(pair))
            words[word] = words.get(word, 0) + 1
        self.assertLessEqual({"twice", "stuck", "once", "many"}, set(words))

    def right(self, walk, answer):
        """The answer is that of the walk; its word."""
        if walk.broken is None:
            self.assertEqual(answer, Once(walk.order()))
            return "once"
        self.assertEqual(answer, Broken(*walk.broken))
        self.assertIs(bool(answer), False)
        outcome = played(walk.pair, answer.run)[-1]
        if answer.word == "stuck":
            onward = [event for event, _ in events(walk.pair, outcome) if event[0] not in ("fall", "lose")]
            self.assertEqual(onward, [])
        else:
            self.assertEqual(outcome, answer.word)
        return answer.word

    def test_a_letter_is_skipped(self):
        found = [pair for pair in all_pairs((1, 2, 3)) if self.word(pair) == "skipped"]
        for pair in found:
            walk = Walk(pair)
            self.assertEqual(once(pair), Broken(*walk.broken))
        # An elder answer ends a sending only behind a letter that was taken for a new one.
        self.assertEqual(found, [])
        stand = ("first", True, 1, ((1,), (-1,), (), ()), 0)
        self.assertIn((("answer", "first", 0), "skipped"), list(events(Pair(), stand)))

    def word(self, pair):
        try:
            return getattr(once(pair), "word", "once")
        except TooMany:
            return "TooMany"

    def test_all_stands_and_one_more(self):
        for pair in (Pair(), Pair(3, "late", "swing", False, True, 1, 2)):
            many = len(once(pair).stands)
            with patch.object(pairs, "MOST_STANDS", many):
                self.assertEqual(len(once(pair).stands), many)
            with patch.object(pairs, "MOST_STANDS", many - 1):
                for work in (once, steady, least_marks):
                    self.refused(("TooMany", "stands", many - 1), work, pair if work != least_marks else pair.but(marks=1))

    def test_four_thousand_stands(self):
        self.assertEqual(pairs.MOST_STANDS, 4000)
        most = Pair(6, "early", "swing", False, True, 1, 2)
        for work in (once, steady):
            self.refused(("TooMany", "stands", 4000), work, most)
        self.refused(("TooMany", "stands", 4000), least_marks, most)
        self.assertTrue(Walk(most).too_many)

    def test_least_marks(self):
        found = set()
        for pair in list(all_pairs((2,)))[::5]:
            told = [self.word(pair.but(marks=marks)) for marks in range(1, 7)]
            first = next((at for at, word in enumerate(told) if word in ("once", "TooMany")), None)
            if first is None or told[first] == "once":
                self.assertEqual(least_marks(pair), None if first is None else first + 1)
                self.assertEqual(least_marks(pair=pair.but(marks=5)), least_marks(pair))
                found.add(least_marks(pair))
            else:
                self.refused(("TooMany", "stands", 4000), least_marks, pair)
        # Two marks do, or none: behind a time-out that is early, elder copies wait behind any number of letters.
        self.assertEqual({None, 1, 2}, found)
        self.assertIsNone(least_marks(Pair(timeouts="never")))
        self.assertEqual(least_marks(Pair(timeouts="never", falls=0)), 1)

    def test_papers(self):
        for at, value in enumerate(any_values()):
            other = any_values()[at - 1]
            for kind, names, is_true in ((Broken, ("word", "run"), False), (Steady, ("most", "heights"), True),
                                         (Endless, ("begin", "ring"), False)):
                paper = kind(value, other)
                self.assertEqual(vars(paper), dict(zip(names, (value, other))))
                self.assertEqual(paper, kind(**dict(zip(names[::-1], (other, value)))))
                self.assertIs(bool(paper), is_true)
                self.assertIsInstance(paper, Verdict)
                self.assertFalse(paper == kind("other", other) or paper == kind(value, "other"))
                self.assertFalse(paper == (value, other) or paper == Once(value))
            self.assertEqual((Once(stands=value), vars(Once(value)), bool(Once(value))), (Once(value), {"stands": value}, True))
            self.assertFalse(Once(value) == Once(other))


class SteadyTest(Case):

    def test_against_a_walk(self):
        found = {"steady": 0, "endless": 0}
        for pair in [*SMALL, *list(all_pairs((2, 3)))[::7]]:
            walk = Walk(pair, 700)
            if walk.broken is not None:
                self.refused(("BadPair", "breaks"), steady, pair)
            elif not walk.too_many:
                heights = self.heights(walk)
                answer = steady(pair)
                if heights is None:
                    self.endless(pair, answer)
                else:
                    self.assertEqual(answer, Steady(max(heights.values()), heights))
                found["steady" if heights else "endless"] += 1
        self.assertGreater(min(found.values()), 10)

    def heights(self, walk):
        """The most events to the next letter from each stand on, by more and more of them; None if there is no end."""
        quiet = {stand: [outcome for event, outcome in rows if not hands_out(walk.pair, stand, event)]
                 for stand, rows in walk.rows.items()}
        heights = dict.fromkeys(quiet, 1)
        for _ in range(len(quiet) + 1):
            after = {stand: max([1, *[heights[outcome] + 1 for outcome in outcomes]]) for stand, outcomes in quiet.items()}
            if after == heights:
                return heights
            heights = after
        return None

    def endless(self, pair, answer):
        """A ring leads back to the same stand, and hands out no letter."""
        self.assertIsInstance(answer, Endless)
        self.assertIs(bool(answer), False)
        self.assertIsInstance(answer.begin, tuple)
        self.assertIsInstance(answer.ring, tuple)
        stands = [first_stand(pair), *played(pair, answer.begin + answer.ring)]
        many = len(answer.begin)
        self.assertGreater(len(answer.ring), 0)
        self.assertEqual(stands[many], stands[-1])
        for at, event in enumerate(answer.ring):
            self.assertFalse(hands_out(pair, stands[many + at], event))

    def test_by_hand(self):
        # A letter, its answer, the next letter: send, arrive; from the answer on three.
        plain = Pair(timeouts="never", falls=0)
        self.assertEqual(steady(plain).most, 3)
        self.assertEqual(steady(plain).heights[first_stand(plain)], 2)
        self.assertEqual(len(steady(plain).heights), len(once(plain).stands))
        # Letters that are lost again and again on ways that change by turns.
        lossy = Pair(change="swing", losses=True, falls=0)
        self.endless(lossy, steady(lossy))

    def test_refused(self):
        for value in [*any_values(), "pair"]:
            self.refused(("BadPair", "pair"), steady, value)
        for pair in (Pair(1), Pair(timeouts="never"), Pair(timeouts="early")):
            self.refused(("BadPair", "breaks"), steady, pair)
        self.assertEqual(steady(pair=Pair()).most, steady(Pair()).most)
