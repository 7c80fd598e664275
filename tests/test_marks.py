"""Senders and receivers, led through many sendings by the test's own numbers."""

from layerpost.marks import Receiver, Sender
from tests.helpers import Case, any_values, dealer

FIELDS = ("marks", "mark", "way", "waits")


class SenderTest(Case):

    def test_attributes_and_texts(self):
        self.assertEqual(tuple(vars(Sender()).values()), (2, 0, "first", False))
        for marks in range(1, 7):
            for mark in range(marks):
                for way in ("first", "spare"):
                    for waits in (False, True):
                        parts = (marks, mark, way, waits)
                        for told in (Sender(*parts), Sender(**dict(reversed(list(zip(FIELDS, parts)))))):
                            self.assertEqual(tuple([getattr(told, name) for name in FIELDS]), parts)
                            self.assertIs(told.waits, waits)
                            self.assertEqual(str(told), f"{mark} of {marks} {way}" + waits * " waits")

    def test_equal(self):
        told = [Sender(), Sender(3), Sender(mark=1), Sender(way="spare"), Sender(waits=True)]
        for at, one in enumerate(told):
            self.assertEqual([one == other for other in told], [at == place for place in range(5)])
        self.assertEqual(Sender(), Sender(2, 0, "first", False))
        self.assertFalse([value for value in [*any_values(), Receiver()] if Sender() == value])

    def test_led_through_many_sendings(self):
        chance = dealer(1)
        for marks in range(1, 7):
            sender, number, way, waits = Sender(marks), 0, "first", False
            for _ in range(200):
                before = str(sender)
                word = chance.choice(("sends", "hears", "hears", "turns"))
                if word == "sends" and waits:
                    self.refused(("BadPair", "waits"), sender.sends)
                elif word == "sends":
                    sender, waits = sender.sends(), True
                elif word == "turns" and not waits:
                    self.refused(("BadPair", "waits"), sender.turns)
                elif word == "turns" and way == "spare":
                    self.refused(("BadPair", "way"), sender.turns)
                elif word == "turns":
                    after = sender.turns()
                    self.assertEqual((str(sender), str(after)), (before, f"{number % marks} of {marks} spare waits"))
                    if chance.random() < .3:
                        sender, way = after, "spare"
                else:
                    mark = chance.randrange(marks)
                    sender = sender.hears(mark=mark)
                    if waits and mark == number % marks:
                        number, waits = number + 1, False
                self.assertEqual(sender, Sender(marks, number % marks, way, waits))

    def test_it_never_changes(self):
        sender = Sender(3, 2, "first", True)
        sender.hears(2), sender.hears(0), sender.turns()
        self.assertEqual(str(sender), "2 of 3 first waits")
        self.assertEqual([str(sender.hears(2)), str(sender.hears(1))], ["0 of 3 first", "2 of 3 first waits"])
        self.assertEqual(str(Sender(3, 2, "spare").hears(2)), "2 of 3 spare")
        self.assertEqual(str(Sender(3, 2, "spare", True).hears(2)), "0 of 3 spare")

    def test_refused(self):
        for value in [*any_values(), 0, 7]:
            self.refused(("BadPair", "marks"), Sender, value, value, value, value)
        for marks in range(1, 7):
            for value in [*any_values(), marks]:
                self.refused(("BadPair", "mark"), Sender, marks, value, value, value)
                for sender in (Sender(marks), Sender(marks, waits=True)):
                    self.refused(("BadNumber", value), sender.hears, value)
        for value in [*any_values(), "first ", "First", "second", ("first",)]:
            self.refused(("BadPair", "way"), Sender, 2, 1, value, value)
        for value in [value for value in any_values() if not isinstance(value, bool)] + [0, 1, "waits"]:
            self.refused(("BadPair", "waits"), Sender, 2, 1, "spare", value)
        self.refused(("BadPair", "waits"), Sender(way="spare").turns)


class ReceiverTest(Case):

    def test_led_through_many_letters(self):
        chance = dealer(2)
        for marks in range(1, 7):
            receiver, many = Receiver(marks=marks), 0
            for _ in range(100):
                mark = chance.randrange(marks)
                behind, is_new = receiver.takes(mark=mark)
                self.assertIs(is_new, mark == many % marks)
                self.assertEqual((receiver.marks, receiver.wanted), (marks, many % marks))
                many += is_new
                self.assertEqual((behind.marks, behind.wanted), (marks, many % marks))
                self.assertEqual(behind, Receiver(wanted=many % marks, marks=marks))
                receiver = behind
        self.assertIsInstance(receiver.takes(0), tuple)

    def test_equal(self):
        told = [Receiver(), Receiver(3), Receiver(2, 1)]
        for at, one in enumerate(told):
            self.assertEqual([one == other for other in told], [at == place for place in range(3)])
        self.assertEqual(tuple(vars(Receiver()).values()), (2, 0))
        self.assertFalse([value for value in [*any_values(), Sender()] if Receiver() == value])

    def test_refused(self):
        for value in [*any_values(), 0, 7]:
            self.refused(("BadPair", "marks"), Receiver, value, value)
        for marks in range(1, 7):
            for value in [*any_values(), marks]:
                self.refused(("BadPair", "wanted"), Receiver, marks, value)
                self.refused(("BadNumber", value), Receiver(marks).takes, value)
