"""Runs that are played, tick by tick, while tables may be exchanged."""

from layerpost.checks import is_from_zero, is_letter
from layerpost.errors import BadLetter, BadNumber, BadRun, BadTable, Clashing, Nothing, TooMany
from layerpost.hues import first_hues
from layerpost.parcels import MOST_WAITING
from layerpost.runs import MOST_TICK, Run
from layerpost.scenes import first_scene
from layerpost.tables import Tables
from layerpost.trials import Attempt, Trial


def check_player(run, tables):
    """Raises if any values are no run, and neither None nor tables of its net."""
    if not isinstance(run, Run):
        raise BadRun("run")
    if tables is not None and (not isinstance(tables, Tables) or not tables.net == run.net):
        raise BadTable("tables")


class Player:
    """A run that is played, and all that can be taken back. A player changes."""

    def __init__(self, run, tables=None):
        check_player(run, tables)
        self.begun = Tables.of(run.net) if tables is None else tables
        self.now = first_scene(run, first_hues(self.begun))
        self.past = []

    def done(self, word, scene):
        """Keeps a deed that was let, and what is behind it."""
        self.past.append((word, self.now))
        self.now = scene

    def check_ticks(self, many):
        """Raises if so many ticks more are too many."""
        if self.now.tick + many > MOST_TICK:
            raise TooMany("ticks", MOST_TICK)

    def advance(self):
        """One tick; the tuple of its Events."""
        self.check_ticks(1)
        scene = self.now.copy_of()
        scene.do_tick()
        self.done("advance", scene)
        return tuple(scene.news)

    def go(self, many):
        """So many ticks."""
        if not is_from_zero(many):
            raise BadNumber(many)
        self.check_ticks(many)
        scene = self.now.copy_of()
        for _ in range(many):
            scene.do_tick()
        self.done("go", scene)

    def send(self, flow, letter):
        """One letter more waits, behind the others, and can be taken up from now on."""
        told = self.now.run.net.flow_named(flow)
        if not is_letter(letter):
            raise BadLetter(letter)
        if len(letter) > told.most:
            raise TooMany("signs", told.most)
        post = self.now.posts[flow]
        if len(post.queue) == MOST_WAITING:
            raise TooMany("letters", MOST_WAITING)
        scene = self.now.copy_of()
        scene.posts[flow] = post.with_queued(scene.tick, letter)
        self.done("send", scene)

    @property
    def clock(self):
        """How many ticks have gone by."""
        return self.now.tick

    @property
    def is_idle(self):
        """Whether no letter waits, no sending is without its end, and nothing is under way."""
        posts = list(self.now.posts.values())
        return len(self.now.parcels) == 0 and not any([post.queue or post.sender.waits for post in posts])

    def post_of(self, flow):
        """Both ends of a flow."""
        self.now.run.net.flow_named(flow)
        return self.now.posts[flow]

    def handed(self, flow):
        """The tuple of the contents that were handed out."""
        return tuple([content for content, _ in self.post_of(flow).out])

    def ticks_of(self, flow):
        """For each content that was handed out the ticks from its taking up."""
        return tuple([ticks for _, ticks in self.post_of(flow).out])

    def waiting(self, flow):
        """The tuple of the contents that are not taken up."""
        return tuple([content for _, content in self.post_of(flow).queue])

    def way_of(self, flow):
        """The way of a flow."""
        return self.post_of(flow).sender.way

    def hue_of(self, flow):
        """The hue with which a flow takes up letters."""
        return self.now.hues.hue_of(flow)

    def places_of(self, flow):
        """What is under way: the ascending tuple of 0 for a letter and 1 for an answer, the mark, and the house."""
        self.post_of(flow)
        parcels = list(self.now.parcels.values())
        return tuple(sorted(set([parcel.row() for parcel in parcels if parcel.letter.flow == flow])))

    def events(self):
        """All Events so far, in order."""
        yield from self.now.log.listed()

    def exchanged(self, word, hues):
        """Keeps a deed of an exchange of tables."""
        scene = self.now.copy_of()
        scene.hues = hues
        self.done(word, scene)

    def offer(self, tables):
        """Tables for the other hue are offered."""
        self.exchanged("offer", self.now.hues.with_offer(tables))

    def give(self, house):
        """A house gets the tables that are offered."""
        self.exchanged("give", self.now.hues.with_given(house))

    def turn(self, flow):
        """A flow takes up letters with the other hue from now on."""
        self.exchanged("turn", self.now.hues.with_turned(flow))

    def drop(self, house):
        """A house forgets the old tables, if no letter of their hue is under way."""
        hues = self.now.hues.with_dropped(house)
        hue = self.now.hues.hue
        if any([post.is_sending(hue) for post in self.now.posts.values()]):
            raise Clashing("letters")
        if any([parcel.letter.hue == hue and not parcel.is_answer for parcel in self.now.parcels.values()]):
            raise Clashing("letters")
        self.exchanged("drop", hues)

    def undo(self):
        """Takes back the last deed, and returns its word."""
        if not self.past:
            raise Nothing()
        word, self.now = self.past.pop()
        return word

    @property
    def deeds(self):
        """How many deeds can be taken back."""
        return len(self.past)

    def trial(self):
        """A block behind which the player is as it was."""
        return Trial(self)

    def tried(self, work):
        """What the work tells, which leaves nothing."""
        with self.trial() as same:
            return work(same)

    def attempt(self, work):
        """What the work tells; it leaves nothing if it raises an error."""
        with Attempt(self) as same:
            return work(same)

    def twin(self):
        """An equal player with nothing to take back."""
        other = Player(self.now.run, self.begun)
        other.now = self.now
        return other

    def __eq__(self, other):
        return isinstance(other, Player) and self.now == other.now
