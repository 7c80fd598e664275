"""A play tick by tick: what a tick does, part by part.

A Scene is changed while it plays, and by its player never again: a player goes on
with a copy.
"""

from layerpost.events import Event
from layerpost.follow import cells_many
from layerpost.lines import slots_until
from layerpost.parcels import Letter, Log, Parcel, first_post
from layerpost.streams import Stream


class Scene:
    """All that a play is at a tick.

    posts tells them by their flows, in the order of the net. parcels has by their
    numbers, in the order in which they were ready, those that are under way; dues the
    ticks at which they come in, as soon as these are known. streams has the lines on
    which something goes on: each line with its Stream and the numbers of its things.
    """

    def __init__(self, run, hues):
        self.run = run
        self.hues = hues
        self.tick = 0
        self.posts = {}
        self.parcels = {}
        self.dues = {}
        self.streams = {}
        self.fallen = None
        self.many = 0
        self.log = Log([], 0)
        self.news = []

    def copy_of(self):
        """A scene that goes on by itself."""
        copy = Scene(self.run, self.hues)
        copy.tick = self.tick
        copy.posts = {name: self.posts[name] for name in self.posts}
        copy.parcels = {number: self.parcels[number] for number in self.parcels}
        copy.dues = {number: self.dues[number] for number in self.dues}
        copy.streams = {line: self.streams[line] for line in self.streams}
        copy.fallen = self.fallen
        copy.many = self.many
        copy.log = self.log
        return copy

    def tell(self, word, flow, name, mark):
        """Something has happened."""
        self.news.append(Event(self.tick, word, flow, name, mark))

    def do_tick(self):
        """One tick; its events are kept in news until the next one."""
        self.news = []
        self.do_fall()
        self.come_in()
        self.time_out()
        self.take_up()
        self.do_slots()
        if self.news:
            self.log = self.log.with_rows(self.news)
        self.tick = self.tick + 1

    def is_lost(self, link):
        """Whether a link has fallen, or a house at one of its ends."""
        return self.fallen in (link.name, link.one, link.other)

    def link_of(self, parcel):
        """The link by which a parcel goes on."""
        return self.run.net.between(parcel.houses[-1], parcel.towards)

    def is_gone(self, parcel):
        """Whether a parcel is at a fallen house, or on a lane of a fallen link or house."""
        if parcel.towards is None:
            return parcel.houses[-1] == self.fallen
        return self.is_lost(self.link_of(parcel))

    def do_fall(self):
        """What falls at this tick falls, and what is there is gone."""
        fall = self.run.fall
        if fall is None or fall.tick != self.tick:
            return
        self.fallen = fall.name
        self.tell("fell", None, fall.name, None)
        lost = [number for number in self.parcels if self.is_gone(self.parcels[number])]
        ordered = self.in_order(lost)
        for number in ordered:
            letter = self.parcels[number].letter
            self.tell("gone", letter.flow, fall.name, letter.mark)
            self.leave(number)
        for line in list(self.streams):
            if self.is_lost(self.run.net.link_named(line[0])):
                del self.streams[line]

    def in_order(self, numbers):
        """Numbers of parcels, flow by flow, letters ahead of answers, those first that were ready first."""
        flows = list(self.posts)
        return sorted(numbers, key=lambda number: (
            flows.index(self.parcels[number].letter.flow), self.parcels[number].is_answer, number))

    def leave(self, number):
        """A parcel is no more where it was."""
        del self.parcels[number]
        if number in self.dues:
            del self.dues[number]

    def come_in(self):
        """What is there at this tick comes in, link by link."""
        due = [number for number in self.dues if self.dues[number] == self.tick]
        if not due:
            return
        names = {number: self.link_of(self.parcels[number]).name for number in due}
        ordered = self.in_order(due)
        for link in self.run.net.links:
            for number in ordered:
                if names[number] == link.name:
                    parcel = self.parcels[number]
                    self.leave(number)
                    self.reach(parcel)

    def reach(self, parcel):
        """A parcel comes in at the next house."""
        letter = parcel.letter
        flow = self.run.net.flow_named(letter.flow)
        houses = parcel.houses_behind()
        if parcel.is_answer and len(houses) == 1:
            self.hear(letter)
        elif parcel.is_answer:
            self.tell("back", letter.flow, parcel.towards, letter.mark)
            self.make_ready(letter, parcel.way, houses, True)
        elif parcel.towards == flow.end:
            self.posts[letter.flow], is_new = self.posts[letter.flow].handing(letter, self.tick)
            self.tell("handed" if is_new else "known", letter.flow, flow.end, letter.mark)
            self.make_ready(letter, parcel.way, houses, True)
        else:
            self.tell("came", letter.flow, parcel.towards, letter.mark)
            self.make_ready(letter, parcel.way, houses, False)

    def hear(self, letter):
        """An answer comes in at the begin."""
        post = self.posts[letter.flow]
        sender = post.sender.hears(letter.mark)
        word = "stale" if sender == post.sender else "ended"
        self.posts[letter.flow] = post.with_sender(sender)
        self.tell(word, letter.flow, self.run.net.flow_named(letter.flow).begin, letter.mark)

    def make_ready(self, letter, way, houses, is_answer):
        """A letter or an answer is ready at a house; it is gone at once if it would go on where all has fallen."""
        if is_answer:
            towards = houses[-2]
        else:
            towards = self.hues.next_house(houses[-1], letter.flow, way, letter.hue)
        parcel = Parcel(letter, way, houses, is_answer, towards)
        if self.is_gone(parcel):
            self.tell("gone", letter.flow, self.fallen, letter.mark)
            return
        number = self.many
        self.many = number + 1
        self.parcels[number] = parcel
        if towards is not None:
            self.put_on(number, parcel, self.link_of(parcel))

    def put_on(self, number, parcel, link):
        """The cells of a parcel wait for the lane to the next house, if the flow has own slots there."""
        letter = parcel.letter
        house = parcel.houses[-1]
        lane = link.lane_from(house)
        if not lane.carries(letter.flow):
            return
        line = (link.name, house, letter.flow)
        if line not in self.streams:
            self.streams[line] = (self.quiet_stream(line, lane), ())
        stream, numbers = self.streams[line]
        cells = cells_many(self.run.net, str(letter.mark) + ("" if parcel.is_answer else letter.content))
        self.streams[line] = (stream.with_thing(cells), (*numbers, number))

    def quiet_stream(self, line, lane):
        """The Stream of a line on which nothing has to be kept but the phase."""
        link, house, flow = line
        first = slots_until(lane.ring.own(flow), len(lane.ring), self.run.place_of((link, house)), self.tick)
        return Stream(lane, flow, (self.run.phase_of(line) + first) % len(lane.plan))

    def begin_streams(self):
        """The lines that have losses begin."""
        for line in list(self.run.losses):
            link, house, flow = line
            lane = self.run.net.link_named(link).lane_from(house)
            self.streams[line] = (Stream(lane, flow, self.run.phase_of(line), self.run.losses_of(line)), ())

    def time_out(self):
        """Flows whose letter was taken up so many ticks ago as the time-out tells change to the spare way."""
        for flow in self.run.net.flows:
            post = self.posts[flow.name]
            if post.sender.waits and post.sender.way == "first" and self.tick == post.letter.taken + flow.timeout:
                self.posts[flow.name] = post.with_sender(post.sender.turns())
                self.tell("changed", flow.name, flow.begin, post.letter.mark)
                self.make_ready(post.letter, "spare", (flow.begin,), False)

    def take_up(self):
        """Flows without a letter under way take up their next one."""
        for flow in self.run.net.flows:
            post = self.posts[flow.name]
            if not post.sender.waits and post.queue and post.queue[0][0] <= self.tick:
                hue = self.hues.hue_of(flow.name)
                letter = Letter(flow.name, post.sender.mark, post.queue[0][1], self.tick, hue)
                self.posts[flow.name] = post.taking_up(letter)
                self.tell("taken", flow.name, flow.begin, letter.mark)
                self.make_ready(letter, post.sender.way, (flow.begin,), False)

    def do_slots(self):
        """Each lane on which something goes on does its slot."""
        for line in list(self.streams):
            stream, numbers = self.streams[line]
            lane = stream.lane
            ring = lane.ring
            if ring(self.run.place_of(line[:2]) + self.tick) != line[2]:
                continue
            behind, known = stream.behind()
            for thing in known:
                self.dues[numbers[thing]] = self.tick + 1 + lane.travel
            if behind.is_quiet():
                del self.streams[line]
            else:
                self.streams[line] = (behind, numbers)

    def under_way(self):
        """What is under way, in the order in which it was ready, with the ticks at which it comes in."""
        return [(self.parcels[number], self.dues.get(number)) for number in self.parcels]

    def __eq__(self, other):
        return isinstance(other, Scene) and self.run == other.run and self.tick == other.tick and (
            self.hues == other.hues) and self.log == other.log and self.posts == other.posts and (
            self.under_way() == other.under_way())


def first_scene(run, hues):
    """The scene of a run ahead of the tick 0."""
    scene = Scene(run, hues)
    for flow in run.net.flows:
        scene.posts[flow.name] = first_post(run.contents_of(flow.name))
    scene.begin_streams()
    return scene
