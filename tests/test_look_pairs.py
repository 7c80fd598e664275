"""Lookers at papers of pairs: what once and steady tell, and what is nearly so."""

from layerpost.look_pairs import shows_once, shows_steady
from layerpost.paces import Endless, Steady, steady
from layerpost.pairs import Broken, Once, Pair, events, first_stand, once, played
from tests.helpers import Case, any_values, dealer
from tests.moves import Walk, all_events, all_pairs, hands_out, is_stuck, slow_events

SMALL = [pair for pair in all_pairs((1, 2, 3)) if pair.room == 1]
LATE = Pair()
LOSSY = Pair(change="swing", losses=True, falls=0)
STUCK = Pair(timeouts="never")


def answers():
    """Small pairs with what once tells, where a walk ends."""
    for pair in SMALL:
        if not Walk(pair, 300).too_many:
            yield pair, once(pair)


def other_kinds(stand):
    """A stand with a part of another kind, or beyond its bounds."""
    way, waits, ahead, roads, falls = stand
    yield from [list(stand), stand[:4], (*stand, 0), (None, *stand[1:]), ("third", *stand[1:]), (way, int(waits), *stand[2:]),
                (way, None, *stand[2:]), (way, waits, bool(ahead), *stand[3:]), (way, waits, 2, *stand[3:]),
                (way, waits, -1, *stand[3:]), (way, waits, ahead, list(roads), falls), (way, waits, ahead, roads[:3], falls),
                (way, waits, ahead, (*roads, ()), falls), (way, waits, ahead, roads, bool(falls)), (way, waits, ahead, roads, 2),
                (way, waits, ahead, roads, -1), (way, waits, ahead, roads, None)]
    for road in ([], "", 0, (2,), (-9,), (True,), (None,), ((),), (0, 0, 0), {}):
        for at in range(4):
            yield way, waits, ahead, (*roads[:at], road, *roads[at + 1:]), falls


class ShowsOnceTest(Case):

    def test_what_once_tells(self):
        words = {}
        for pair, answer in answers():
            self.assertIs(shows_once(pair, answer), True)
            word = answer.word if isinstance(answer, Broken) else "once"
            words[word] = words.get(word, 0) + 1
        self.assertGreater(min([words[word] for word in ("twice", "stuck", "once")]), 20)

    def test_stands_left_out_told_twice_or_in_another_order(self):
        for pair in (LATE, LOSSY, Pair(1, "never", falls=0), Pair(3, falls=0, order=False, room=2)):
            stands = once(pair).stands
            for value in (stands[::-1], stands + stands, (*stands[1:], stands[0])):
                self.assertIs(shows_once(pair, Once(value)), True)
            for at in range(len(stands)):
                self.assertIs(shows_once(pair, Once(stands[:at] + stands[at + 1:])), False)
            for value in (list(stands), (), None, {stand: 1 for stand in stands}, set(stands), (stands,)):
                self.assertIs(shows_once(pair, Once(value)), False)

    def test_stands_of_other_kinds(self):
        for pair in (LATE, LOSSY):
            stands = once(pair).stands
            for at in (0, len(stands) // 2, len(stands) - 1):
                for wrong in other_kinds(stands[at]):
                    self.assertIs(shows_once(pair, Once((*stands[:at], wrong, *stands[at + 1:]))), False)
                    self.assertIs(shows_once(pair, Once((*stands, wrong))), False)

    def test_stands_that_need_not_come_up(self):
        pair = Pair(falls=0)
        stands = once(pair).stands
        # A pair that has changed its way at its first stand: all behind it, and so each more.
        more = [("spare", False, 1, ((), (), (), ()), 0)]
        for stand in more:
            more += [outcome for _, outcome in slow_events(pair, stand) if outcome not in more]
        self.assertFalse([stand for stand in more if stand in stands])
        self.assertIs(shows_once(pair, Once((*stands, *more))), True)
        self.assertIs(shows_once(pair, Once((*stands, *more[:-1]))), False)
        self.assertIs(shows_once(pair, Once(tuple(more))), False)
        # Stuck behind a letter that is gone; handed out twice behind an elder copy.
        for wrong in (("spare", True, 1, ((), (), (), ()), 0), ("spare", True, 0, ((), (), (-1,), ()), 0),
                      ("spare", True, 1, ((), (), (), (-1,)), 0)):
            self.assertIs(shows_once(pair, Once((*stands, wrong))), False)

    def test_stands_of_other_kinds_with_all_behind_them(self):
        swing = Pair(change="swing", falls=0)
        fallen, free = (None,) * 4, ((), (), (), ())
        for pair, stand, wanted in (
                (swing, ("first", True, 1, fallen, 0), True), (swing, ("spare", True, 0, fallen, 0), True),
                (swing, ("first", True, 2, fallen, 0), False), (swing, ("first", True, -1, fallen, 0), False),
                (swing, ("first", False, 1, ((), (0,), (), ()), 0), True),
                (swing.but(marks=3), ("first", False, 1, ((), (-1,), (), ()), 0), True),
                (swing, ("first", False, 1, ((), (2,), (), ()), 0), False), (swing, ("first", False, 1, ((), (-2,), (), ()), 0), False),
                (swing, ("first", False, 1, ((), (0, 0), (), ()), 0), False), (swing, ("spare", False, 1, free, 1), False),
                (swing.but(room=2), ("first", False, 1, ((), (0, 0), (), ()), 0), True),
                (swing.but(room=2), ("first", False, 1, ((), (0, 0, 0), (), ()), 0), False),
                (swing.but(falls=1), ("spare", False, 1, free, 1), True), (swing.but(falls=1), ("spare", False, 1, free, 2), False)):
            # No walk from either stand breaks the pair, so it is the kind of the stand that counts.
            more = self.all_behind(pair, stand) + self.all_behind(pair, first_stand(pair))
            self.assertIs(shows_once(pair, Once(tuple(more))), wanted, stand)

    def all_behind(self, pair, begin):
        """All stands behind one, itself too; None if it breaks the pair."""
        found = [begin]
        for stand in found:
            rows = slow_events(pair, stand)
            if is_stuck(rows) or [outcome for _, outcome in rows if isinstance(outcome, str)]:
                return None
            found += [outcome for _, outcome in rows if outcome not in found]
        return found

    def test_stands_of_other_pairs(self):
        chance = dealer(1)
        told = [(pair, answer) for pair, answer in answers() if isinstance(answer, Once)]
        for pair, answer in told:
            for other, value in chance.sample(told, 12):
                wanted = self.is_closed(pair, value.stands)
                self.assertIs(shows_once(pair, value), wanted, (str(pair), str(other)))

    def is_closed(self, pair, stands):
        if first_stand(pair) not in stands:
            return False
        for stand in stands:
            numbers = [number for road in stand[3] if road for number in road]
            if [number for number in numbers if number < 1 - pair.marks] or stand[4] > pair.falls:
                return False
            rows = slow_events(pair, stand)
            if is_stuck(rows) or [outcome for _, outcome in rows if outcome not in stands]:
                return False
        return True

    def test_runs_that_break(self):
        for pair, answer in answers():
            if not isinstance(answer, Broken):
                continue
            run, word = answer.run, answer.word
            for other in ("twice", "skipped", "stuck", "once", None, True, ("twice",), ""):
                self.assertIs(shows_once(pair, Broken(other, run)), other == word)
            for value in (list(run), run[:-1], run[1:], (*run, ("send",)), (*run[:-1], ("send", 0)), (), None, (run,), "send"):
                self.assertIs(shows_once(pair, Broken(word, value)), False)
            for event in all_events(1):
                for at in range(len(run)):
                    other = (*run[:at], event, *run[at + 1:])
                    self.assertIs(shows_once(pair, Broken(word, other)), self.breaks(pair, other) == word)

    def breaks(self, pair, run):
        """The word for a run that breaks a pair, by the test's own moves; None for another one."""
        stand = first_stand(pair)
        for at, event in enumerate(run):
            told = dict(slow_events(pair, stand))
            stand = told.get(event)
            if stand is None or isinstance(stand, str) and at < len(run) - 1:
                return None
        return stand if isinstance(stand, str) else "stuck" if is_stuck(slow_events(pair, stand)) else None

    def test_longer_runs(self):
        pair = Pair(1)
        around = (("send",), ("arrive", "first", 0), ("answer", "first", 0))
        run = once(pair).run
        self.assertIs(shows_once(pair, Broken("twice", around + around + run)), True)
        self.assertIs(shows_once(pair, Broken("twice", around + run + around)), False)

    def test_runs_that_go_on_from_a_stuck_stand(self):
        pair = Pair(timeouts="never", losses=True)
        stuck = (("send",), ("lose", "first", "letters", 0))
        for more in ((), (("fall", "first", "both"),), (("fall", "spare", "answers"),)):
            self.assertIs(shows_once(pair, Broken("stuck", stuck + more)), True)
        self.assertIs(shows_once(pair, Broken("stuck", stuck[:1])), False)
        self.assertIs(shows_once(pair, Broken("stuck", (*stuck, ("timeout",)))), False)
        two = Pair(timeouts="never", losses=True, order=False, room=2)
        self.assertIs(shows_once(two, Broken("stuck", (*stuck, ("fall", "first", "letters")))), True)
        fallen = (("send",), ("fall", "first", "letters"))
        self.assertIs(shows_once(STUCK, Broken("stuck", fallen)), True)
        self.assertIs(shows_once(STUCK, Broken("twice", fallen)), False)

    def test_values_of_all_kinds(self):
        for pair in (LATE, STUCK):
            for value in [*any_values(), steady(LATE), "once", Steady(1, {}), Endless((), ())]:
                self.assertIs(shows_once(pair, value), False)
                self.assertIs(shows_once(pair, Once(value)), False)
                self.assertIs(shows_once(pair, Once((first_stand(pair), value))), False)
                for word in ("twice", "skipped", "stuck"):
                    self.assertIs(shows_once(pair, Broken(word, value)), False)
                    self.assertIs(shows_once(pair, Broken(word, (value,))), False)
                self.assertIs(shows_once(pair, Broken(value, once(STUCK).run)), False)
        self.assertIs(shows_once(value=once(LATE), pair=LATE), True)
        # Python takes False for 0: an event of another kind cannot come.
        wrong = (("send",), ("arrive", "first", False), ("fall", "first", "answers"), ("timeout",), ("arrive", "spare", 0))
        self.assertIs(shows_once(Pair(1), Broken("twice", wrong)), False)


class ShowsSteadyTest(Case):

    def test_what_steady_tells(self):
        found = {Steady: 0, Endless: 0}
        for pair, answer in answers():
            if isinstance(answer, Once):
                self.assertIs(shows_steady(pair, steady(pair)), True)
                found[type(steady(pair))] += 1
        self.assertGreater(min(found.values()), 7)

    def test_heights_otherwise(self):
        for pair in (LATE, Pair(2, falls=0), Pair(1, "never", falls=0)):
            paper = steady(pair)
            heights, most = paper.heights, paper.most
            quiet = {stand: [outcome for event, outcome in slow_events(pair, stand) if not hands_out(pair, stand, event)]
                     for stand in heights}
            for stand in heights:
                for height in (heights[stand] + 1, heights[stand] - 1, 0, most + 1, most + 3):
                    other = {**heights, stand: height}
                    wanted = all([other[one] > other[outcome] for one in quiet for outcome in quiet[one]])
                    self.assertIs(shows_steady(pair, Steady(most + 2, other)), wanted and 1 <= height <= most + 2)
                for height in (None, True, str(heights[stand]), (1,)):
                    self.assertIs(shows_steady(pair, Steady(most, {**heights, stand: height})), False)
                less = {one: heights[one] for one in heights if one != stand}
                self.assertIs(shows_steady(pair, Steady(most, less)), False)
                for wrong in other_kinds(stand):
                    if "[" not in str(wrong) and "{" not in str(wrong):
                        # A key that Python takes for this one takes its place, and stays a key of its first kind.
                        self.assertIs(shows_steady(pair, Steady(most, {wrong: heights[stand], **less})), False)

    def test_most(self):
        paper = steady(LATE)
        for most, wanted in ((paper.most, True), (paper.most + 1, True), (10 ** 30, True), (paper.most - 1, False), (0, False),
                             (-1, False), (None, False), (str(paper.most), False), (True, False), ((), False)):
            self.assertIs(shows_steady(LATE, Steady(most, paper.heights)), wanted)
        raised = {stand: 10 * height + 5 for stand, height in paper.heights.items()}
        self.assertIs(shows_steady(LATE, Steady(10 * paper.most + 5, raised)), True)
        self.assertIs(shows_steady(LATE, Steady(paper.most, raised)), False)

    def test_heights_of_stands_that_need_not_come_up(self):
        pair = Pair(falls=0)
        heights = dict(steady(pair).heights)
        begin = ("spare", False, 1, ((), (), (), ()), 0)
        behind = ("spare", True, 1, ((), (), (1,), ()), 0)
        late = ("spare", True, 0, ((), (), (), (0,)), 0)
        self.assertIs(shows_steady(pair, Steady(9, {**heights, begin: 2, behind: 1, late: 3})), True)
        self.assertIs(shows_steady(pair, Steady(9, {**heights, begin: 2, behind: 1, late: 2})), False)
        self.assertIs(shows_steady(pair, Steady(9, {**heights, begin: 2, late: 3})), False)

    def test_rings(self):
        for pair in (LOSSY, LOSSY.but(falls=1), LOSSY.but(marks=3, order=False, room=2)):
            paper = steady(pair)
            begin, ring = paper.begin, paper.ring
            self.assertIsInstance(paper, Endless)
            around = (("send",), ("arrive", "first", 0), ("answer", "first", 0))
            for value in (Endless(begin, ring + ring), Endless(begin + ring, ring), Endless(around + begin, ring),
                          Endless(begin + ring[:1], ring[1:] + ring[:1])):
                self.assertIs(shows_steady(pair, value), True)
            for value in (Endless(begin, ()), Endless(begin, ring[:-1]), Endless(begin, ring[1:]), Endless(begin + ring[:1], ring),
                          Endless(list(begin), ring), Endless(begin, list(ring)), Endless(ring, begin), Endless((), around),
                          Endless(around, around), Endless(begin, (*ring, ("timeout",))), Endless((), (("send", 0),)),
                          Endless((("send", 0),), ring), Endless((), (("timeout",),)), Endless(begin, ring + around)):
                self.assertIs(shows_steady(pair, value), False)

    def test_rings_by_chance(self):
        chance = dealer(2)
        many = {True: 0, False: 0}
        for pair in (LATE, LOSSY, LOSSY.but(falls=1), LOSSY.but(timeouts="early"), Pair(1, "early", "swing", losses=True)):
            for _ in range(25):
                stand, run, stands = first_stand(pair), [], [first_stand(pair)]
                while len(run) < 14 and not isinstance(stand, str) and list(events(pair, stand)):
                    event, stand = chance.choice(list(events(pair, stand)))
                    run.append(event)
                    stands.append(stand)
                for at in range(len(run)):
                    hands = [hands_out(pair, stands[place], run[place]) for place in range(at, len(run))]
                    for end in range(at + 1, len(run) + 1):
                        wanted = stands[at] == stands[end] and not any(hands[:end - at])
                        paper = Endless(tuple(run[:at]), tuple(run[at:end]))
                        self.assertIs(shows_steady(pair, paper), wanted)
                        many[wanted] += 1
        self.assertGreater(min(many.values()), 20)

    def test_values_of_all_kinds(self):
        begin, ring = steady(LOSSY).begin, steady(LOSSY).ring
        for pair in (LATE, LOSSY, STUCK):
            for value in [*any_values(), once(LATE), once(STUCK), "steady", Steady(None, None)]:
                self.assertIs(shows_steady(pair, value), False)
                self.assertIs(shows_steady(pair, Steady(9, value)), False)
                self.assertIs(shows_steady(pair, Steady(value, steady(LATE).heights)), pair == LATE and value == 10 ** 40 + 1)
                self.assertIs(shows_steady(pair, Endless(value, ring)), pair == LOSSY and value == begin)
                self.assertIs(shows_steady(pair, Endless(begin, value)), False)
                self.assertIs(shows_steady(pair, Endless(begin, (value,))), False)
        self.assertIs(shows_steady(value=steady(LATE), pair=LATE), True)

    def test_papers_of_other_pairs(self):
        self.assertIs(shows_steady(LATE, steady(LOSSY)), False)
        self.assertIs(shows_steady(LOSSY, steady(LATE)), False)
        # With three marks the same stands come up, and so the same paper is right.
        self.assertIs(shows_steady(LATE.but(marks=3), steady(LATE)), True)
        self.assertIs(shows_steady(LATE.but(marks=1), steady(LATE)), False)
        self.assertIs(shows_steady(LATE.but(falls=0), steady(LATE)), False)
        self.assertIs(shows_steady(STUCK, steady(LATE)), False)
        # A ring is looked at by itself, also of a pair that breaks.
        breaks = LOSSY.but(timeouts="early")
        self.assertIsInstance(once(breaks), Broken)
        self.assertIs(shows_steady(breaks, steady(LOSSY)), True)


class RefusedTest(Case):

    def test_no_pair(self):
        for value in [*any_values(), str(LATE), LATE.parts()]:
            for work in (shows_once, shows_steady):
                self.refused(("BadPair", "pair"), work, value, value)
                self.refused(("BadPair", "pair"), work, value, once(LATE))
        # Neither looker counts stands, and neither asks whether the pair breaks.
        most = Pair(6, "early", "swing", False, True, 1, 2)
        self.assertIs(shows_once(most, once(LATE)), False)
        self.assertIs(shows_steady(most, steady(LATE)), False)
        self.assertEqual(len(played(LATE, steady(LOSSY).begin)), len(steady(LOSSY).begin))
