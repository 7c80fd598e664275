"""Pairs: made, told as texts, their events and runs, against moves that the test makes itself."""

from layerpost.pairs import Pair, events, first_stand, least_marks, once, played
from tests.helpers import Case, any_values, dealer, error_of
from tests.moves import NAMES, all_pairs, slow_events

DEFAULTS = (2, "late", "stay", True, False, 1, 1)
# For each part values that it cannot have, beside those of any kind.
WRONG = {"marks": (0, 7, "2"), "timeouts": ("Late", "", ("late",)), "change": ("swing ", "late", ["stay"]), "order": (0, 1, "order"),
         "losses": (0, 1, "lossy"), "falls": (2, False, "1"), "room": (0, 3, True)}


def wrong_for(name):
    """Values of all kinds that a part cannot have."""
    return [value for value in any_values() if not (name in ("order", "losses") and isinstance(value, bool))] + list(WRONG[name])


class PairTest(Case):

    def test_parts(self):
        self.assertEqual(tuple(Pair().parts().items()), tuple(zip(NAMES, DEFAULTS)))
        for pair in all_pairs():
            parts = pair.parts()
            self.assertEqual(list(parts), list(NAMES))
            self.assertEqual([getattr(pair, name) for name in NAMES], list(parts.values()))
            self.assertEqual([pair, Pair(**parts), Pair(*parts.values()), Pair().but(**parts)], [pair] * 4)
            parts["marks"] = 9
            self.assertNotEqual(pair.parts(), parts)
            self.assertIsNot(pair.parts(), pair.parts())

    def test_texts_and_equality(self):
        texts = {}
        for pair in all_pairs():
            told = pair.parts()
            words = ["pair", told["marks"], told["timeouts"], told["change"], "order" if told["order"] else "any",
                     "lossy" if told["losses"] else "sure", told["falls"], told["room"]]
            self.assertEqual(str(pair), " ".join(map(str, words)))
            self.assertEqual(Pair.read(text=str(pair)), pair)
            self.assertEqual([type(part) for part in Pair.read(str(pair)).parts().values()], [type(part) for part in told.values()])
            texts[str(pair)] = pair
        pairs = list(texts.values())
        self.assertEqual(len(pairs), 6 * 3 * 2 * 2 * 2 * 2 * 2)
        for one in pairs[::29]:
            self.assertEqual(len([other for other in pairs if one == other]), 1)
        self.assertFalse([value for value in [*any_values(), str(Pair()), Pair().parts()] if Pair() == value])

    def test_but(self):
        pair = Pair()
        other = pair.but(timeouts="early", room=2)
        self.assertEqual((str(other), str(pair)), ("pair 2 early stay order sure 1 2", "pair 2 late stay order sure 1 1"))
        self.assertEqual(pair.but(), pair)
        self.refused(("BadPair", "mark"), pair.but, room=9, mark=1, other=2)
        self.refused(("BadPair", "losses"), pair.but, room=9, losses=1)

    def test_the_first_wrong_part(self):
        for at, name in enumerate(NAMES):
            for value in wrong_for(name):
                self.refused(("BadPair", name), Pair, *DEFAULTS[:at], value)
                self.refused(("BadPair", name), Pair(6, "never").but, **{name: value})
                self.refused(("BadPair", name), Pair, *DEFAULTS[:at], *[value] * (7 - at) if at else [None] * 7)

    def test_words_that_cannot_stand(self):
        words = str(Pair()).split(" ")
        for at in range(8):
            for word in ("", "x", "pair2", "7", "02", " ", "-1", "None", "True", "Late", "order\n"):
                self.refused(("BadText", 0, at), Pair.read, " ".join([*words[:at], word, *words[at + 1:]]))
            self.refused(("BadText", 0, at) if at else ("BadText", 0, 0), Pair.read, " ".join(words[:at]))
            self.refused(("BadText", 0, at), Pair.read, " ".join([*words[:at], "?", "?", "?"]))
        for text, at in ((str(Pair()) + " ", 8), (str(Pair()) + " 1", 8), (" " + str(Pair()), 0), ("pair  2", 1),
                         ("pair 0", 1), ("pair 2 late stay order sure 2", 6), ("pair 2 late stay order sure 1 0", 7)):
            self.refused(("BadText", 0, at), Pair.read, text)
        for value in any_values():
            self.refused(("BadText", 0, 0), Pair.read, value)


class EventsTest(Case):

    def test_first_stand(self):
        self.assertEqual(first_stand(Pair()), ("first", False, 1, ((), (), (), ()), 1))
        self.assertEqual(first_stand(pair=Pair(falls=0))[4], 0)

    def test_along_runs_by_chance(self):
        chance = dealer(1)
        met = set()
        for at, pair in enumerate(all_pairs()):
            if at % 3 == 0 or pair.room == 2 and not pair.order:
                for _ in range(2):
                    met |= self.follow(pair, chance)
        self.assertLessEqual({"send", "arrive", "answer", "timeout", "fall", "lose", "twice", "skipped"}, met)

    def follow(self, pair, chance):
        """Events are as the test's own at each stand of a run; the words that were met."""
        stand, run, stands, met = first_stand(pair), [], [], set()
        for _ in range(30):
            rows = list(events(pair, stand))
            self.assertEqual(rows, slow_events(pair, stand))
            self.assertEqual([[type(part) for part in event] for event, _ in rows],
                             [[str if isinstance(part, str) else int for part in event] for event, _ in rows])
            if not rows:
                break
            event, stand = chance.choice(rows)
            run.append(event)
            stands.append(stand)
            met |= {event[0], stand if isinstance(stand, str) else event[0]}
            if isinstance(stand, str):
                break
        self.assertEqual(played(pair, run), stands)
        self.assertEqual(played(run=tuple(run), pair=pair), stands)
        return met

    def test_at_stands_of_all_kinds(self):
        chance = dealer(2)
        for pair in all_pairs():
            for _ in range(3):
                roads = tuple([None if chance.random() < .2 else tuple([chance.randint(1 - pair.marks, 1) for _ in range(
                    chance.randint(0, pair.room))]) for _ in range(4)])
                stand = (chance.choice(("first", "spare")), chance.random() < .7, 1, roads, chance.randint(0, pair.falls))
                self.assertEqual(list(events(stand=stand, pair=pair)), slow_events(pair, stand))
                waiting = (stand[0], True, 0, tuple([road and tuple([min(number, 0) for number in road]) for road in roads]), 0)
                self.assertEqual(list(events(pair, waiting)), slow_events(pair, waiting))

    def test_what_events_tell(self):
        pair = Pair(2, "late", "stay", False, True, 1, 2)
        stand = ("first", True, 1, ((1, -1), (0,), (), None), 1)
        told = {event: outcome for event, outcome in events(pair, stand)}
        self.assertEqual(list(told), [
            ("arrive", "first", 0), ("arrive", "first", 1), ("answer", "first", 0), ("fall", "first", "letters"),
            ("fall", "first", "answers"), ("fall", "first", "both"), ("fall", "spare", "letters"), ("fall", "spare", "answers"),
            ("fall", "spare", "both"), ("lose", "first", "letters", 0), ("lose", "first", "letters", 1),
            ("lose", "first", "answers", 0)])
        self.assertEqual(told["arrive", "first", 0], ("first", True, 0, ((0,), (-1, 0), (), None), 1))
        self.assertEqual(told["arrive", "first", 1], "twice")
        self.assertEqual(told["answer", "first", 0], ("first", True, 1, ((1, -1), (), (), None), 1))
        self.assertEqual(told["fall", "first", "both"], ("first", True, 1, (None, None, (), None), 0))
        self.assertEqual(told["lose", "first", "letters", 0], ("first", True, 1, ((-1,), (0,), (), None), 1))

    def test_a_timeout_looks_at_its_own_way(self):
        pair = Pair(change="swing")
        for roads, can in ((((), (), (), ()), True), (((0,), (), (), ()), False), (((), (0,), (), ()), False),
                           (((-1,), (-1,), (), ()), True), (((), (), (-1,), ()), False), (((), (), None, ()), True),
                           (((), (), (), (0,)), True), ((None, None, (), ()), True)):
            told = [event for event, _ in events(pair, ("first", True, 0, roads, 0))]
            self.assertIs(("timeout",) in told, can)
        self.assertIn(("timeout",), [event for event, _ in events(pair, ("spare", True, 0, ((), (0,), (), ()), 0))])
        for other in (pair.but(change="stay"), pair.but(timeouts="never")):
            self.assertNotIn(("timeout",), [event for event, _ in events(other, ("spare", True, 0, ((), (), (), ()), 0))])
        early = pair.but(timeouts="early")
        self.assertIn(("timeout",), [event for event, _ in events(early, ("first", True, 0, ((0,), (0,), (), ()), 0))])

    def test_no_pair(self):
        for value in [*any_values(), "pair 2 late stay order sure 1 1", Pair().parts()]:
            for work in (lambda pair: list(events(pair, None)), first_stand, once, least_marks, lambda pair: played(pair, value)):
                self.refused(("BadPair", "pair"), work, value)
            self.assertEqual(error_of(lambda: next(iter(events(value, None)))), ("BadPair", "pair"))


class PlayedTest(Case):

    def test_runs(self):
        pair = Pair(1)
        run = [("send",), ("arrive", "first", 0), ("fall", "first", "answers"), ("timeout",), ("arrive", "spare", 0)]
        stands = played(pair, run)
        self.assertEqual((stands[-1], stands[2]), ("twice", ("first", True, 0, ((), None, (), ()), 0)))
        self.assertEqual(played(pair, run[:-1]), stands[:-1])
        self.assertEqual((played(pair, []), played(pair, ())), ([], []))
        # Behind the letters that have fallen, only a fall can come, and none is left.
        stuck = [("send",), ("fall", "first", "letters")]
        self.assertEqual(len(played(Pair(timeouts="never"), stuck)), 2)
        self.refused(("BadRun", 2), played, Pair(timeouts="never"), [*stuck, ("timeout",)])
        self.refused(("BadRun", 4), played, pair, [*run, ("send",)])

    def test_values_that_are_no_runs(self):
        for value in any_values():
            if not isinstance(value, (list, tuple)):
                self.refused(("BadRun", "run"), played, Pair(), value)
        self.refused(("BadRun", "run"), played, Pair(), "send")
        self.refused(("BadRun", "run"), played, Pair(), {("send",): 1})

    def test_events_that_cannot_come(self):
        pair = Pair()
        for value in [*any_values(), "send", ["send"], (), ("send", 0), ("timeout",), ("arrive",), ("fall", "first"),
                      ("arrive", "first", 0), ("lose", "first", "letters", 0), ("fall", "first", "all"), ("send", None)]:
            self.refused(("BadRun", 0), played, pair, [value, value])
            if value != ("timeout",):
                self.refused(("BadRun", 1), played, pair, (("fall", "first", "both"), value))
        for value in (("arrive", "first", False), ("arrive", "first", 1), ("arrive", "spare", 0), ("arrive", "first", "0"),
                      ["arrive", "first", 0], ("arrive", "first", 0, 0), ("send",), ("answer", "first", 0)):
            self.refused(("BadRun", 1), played, pair, [("send",), value])
        self.assertEqual(len(played(pair, [("send",), ("arrive", "first", 0)])), 2)
