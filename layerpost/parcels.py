"""What is under way in a play, who sends it, and what is told of it; none of these changes."""

from layerpost.marks import Receiver, Sender

MOST_WAITING = 100


class Parcel:
    """A letter, or an answer to one, at the house from which it goes on.

    houses are those by which a letter came, or by which an answer goes back; the last
    one is where it is. towards is the next one, None if nothing leads on.
    """

    def __init__(self, letter, way, houses, is_answer, towards):
        self.letter = letter
        self.way = way
        self.houses = houses
        self.is_answer = is_answer
        self.towards = towards

    def row(self):
        """Where it is, as it is told."""
        return 1 if self.is_answer else 0, self.letter.mark, self.houses[-1]

    def houses_behind(self):
        """The houses when it has gone on."""
        if self.towards not in self.houses:
            return (*self.houses, self.towards)
        # An answer goes back so; a letter that goes round once does for ever, so no answer asks for its way round.
        return self.houses[:self.houses.index(self.towards) + 1]

    def __eq__(self, other):
        return isinstance(other, Parcel) and self.letter == other.letter and self.way == other.way and (
            self.houses == other.houses) and self.is_answer == other.is_answer and self.towards == other.towards


class Letter:
    """A letter of a flow as it was taken up."""

    def __init__(self, flow, mark, content, taken, hue):
        self.flow = flow
        self.mark = mark
        self.content = content
        self.taken = taken
        self.hue = hue

    def __eq__(self, other):
        return isinstance(other, Letter) and self.flow == other.flow and self.mark == other.mark and (
            self.content == other.content) and self.taken == other.taken and self.hue == other.hue


class Post:
    """Both ends of a flow: the sender, the letter under way, what waits; the receiver, what was handed out.

    letter is None while none is under way; queue has pairs of a tick and a content, out
    pairs of a content and the ticks from its taking up.
    """

    def __init__(self, sender, letter, queue, receiver, out):
        self.sender = sender
        self.letter = letter
        self.queue = queue
        self.receiver = receiver
        self.out = out

    def with_sender(self, sender):
        """The post with another sender."""
        return Post(sender, self.letter if sender.waits else None, self.queue, self.receiver, self.out)

    def with_queued(self, tick, content):
        """The post with one letter more that waits."""
        return Post(self.sender, self.letter, (*self.queue, (tick, content)), self.receiver, self.out)

    def taking_up(self, letter):
        """The post that has taken up the first letter that waits."""
        return Post(self.sender.sends(), letter, self.queue[1:], self.receiver, self.out)

    def handing(self, letter, tick):
        """The post behind a letter that came in at the end, and whether it was handed out."""
        receiver, is_new = self.receiver.takes(letter.mark)
        out = (*self.out, (letter.content, tick - letter.taken)) if is_new else self.out
        return Post(self.sender, self.letter, self.queue, receiver, out), is_new

    def is_sending(self, hue):
        """Whether the sending of a letter of a hue is not ended."""
        return self.sender.waits and self.letter.hue == hue

    def __eq__(self, other):
        return isinstance(other, Post) and self.sender == other.sender and self.letter == other.letter and (
            self.queue == other.queue) and self.receiver == other.receiver and self.out == other.out


def first_post(contents):
    """The post of a flow ahead of all."""
    return Post(Sender(), None, contents, Receiver(), ())


class Log:
    """The first ones, so many, of some rows, which others may share: rows are only put behind all."""

    def __init__(self, rows, many):
        self.rows = rows
        self.many = many

    def with_rows(self, more):
        """The log with more rows behind it."""
        rows = self.rows if len(self.rows) == self.many else self.rows[:self.many]
        rows.extend(more)
        return Log(rows, len(rows))

    def listed(self):
        """The list of its rows."""
        return self.rows[:self.many]

    def __eq__(self, other):
        return isinstance(other, Log) and self.listed() == other.listed()
