"""Frame rules: bodies, frames, states, rightness, texts."""

from itertools import product

from layerpost.frames import FrameRule, Right, Wrong, rightness, shows_right
from tests.helpers import Case, any_values, dealer, error_of, some_signs

LOOP = FrameRule("000", ("0", "0"))
HDLC = FrameRule("0111111", ("011111", "0"))
SHORT = FrameRule.simple("01", "0")


def slow_body(rule, letter):
    """The body of a letter, sign by sign; None if puts go on without an end."""
    sent = ""
    longest = max([len(watch) for watch, _ in rule.pairs], default=0)
    for sign in letter:
        sent += sign
        # More puts than there are endings of this length: one of these has come again.
        for _ in range(2 ** longest + longest + 1):
            watches = [pair for pair in rule.pairs if sent.endswith(pair[0])]
            if not watches:
                break
            sent += max(watches, key=lambda pair: len(pair[0]))[1]
        else:
            return None
    return sent


def is_against(rule, letter):
    """Whether this letter shows that a rule is not right."""
    body = slow_body(rule, letter)
    return body is None or (body + rule.flag).find(rule.flag) < len(body)


def letters_to(most):
    """All letters of at most so many signs, shorter ones first, then ascending."""
    return ["".join(signs) for many in range(most + 1) for signs in product("01", repeat=many)]


def dealt_rule(chance, most_signs=4):
    """A rule by chance, mostly with the put against its flag."""
    flag = some_signs(chance, 2, most_signs + 1)
    watches = {some_signs(chance, 1, most_signs): chance.choice("01") for _ in range(chance.randrange(3))}
    if chance.random() < 0.8:
        watches[flag[:-1]] = "1" if flag[-1] == "0" else "0"
    return FrameRule(flag, *list(watches.items())[:4])


class RuleTest(Case):

    def test_parts_are_kept_in_order(self):
        rule = FrameRule("0110", ("11", "0"), ("0", "1"), ("011", "1"))
        self.assertEqual(rule.flag, "0110")
        self.assertEqual(rule.pairs, (("0", "1"), ("011", "1"), ("11", "0")))
        self.assertEqual(rule, FrameRule("0110", ("011", "1"), ("11", "0"), ("0", "1")))
        self.assertNotEqual(rule, FrameRule("0110", ("011", "1"), ("11", "0")))
        self.assertNotEqual(FrameRule("01"), FrameRule("10"))
        for value in any_values():
            self.assertFalse(FrameRule("00") == value)

    def test_refused_flags(self):
        for value in [*any_values(), "", "0", "012", "0" * 9, "01 ", 10]:
            self.refused(("BadRule", "flag"), FrameRule, value)
            self.refused(("BadRule", "flag"), FrameRule, value, None, ("0", "0"), ("0", "0"))
        self.assertEqual(FrameRule(flag="01" * 4).flag, "01" * 4)

    def test_refused_pairs(self):
        good = ("01", "0")
        for value in [*any_values(), ["01", "0"], ("01",), ("", "0"), ("0" * 9, "0"), ("01", "2"), ("01", "00"),
                      ("01", ""), ("01", 0), (1, "0"), ("01", "0", "0"), "01", ("0 ", "1")]:
            self.refused(("BadRule", 0), FrameRule, "00", value)
            self.refused(("BadRule", 2), FrameRule, "00", good, good, value, None)

    def test_two_pairs_with_one_watch_and_too_many(self):
        pairs = [("0", "0"), ("1", "0"), ("00", "0"), ("01", "0"), ("10", "0")]
        self.refused(("BadRule", "watch"), FrameRule, "00", ("0", "0"), ("0", "1"))
        self.refused(("BadRule", "watch"), FrameRule, "00", ("0", "0"), ("0", "0"))
        self.refused(("BadRule", "watch"), FrameRule, "00", *pairs, ("0", "1"))
        self.refused(("TooMany", "watches", 4), FrameRule, "00", *pairs)
        self.refused(("BadRule", 5), FrameRule, "00", *pairs, ("0",))
        self.assertEqual(len(FrameRule("00", *pairs[:4]).pairs), 4)
        self.assertEqual(FrameRule("00", ("0" * 8, "1")).pairs, (("0" * 8, "1"),))

    def test_simple(self):
        self.assertEqual(FrameRule.simple("01", "0"), FrameRule("011", ("01", "0")))
        self.assertEqual(FrameRule.simple(watch="1", put="1"), FrameRule("10", ("1", "1")))
        self.assertEqual(FrameRule.simple("0" * 7, "1").flag, "0" * 8)
        for value in [*any_values(), "", "0" * 8, "2"]:
            self.refused(("BadRule", "watch"), FrameRule.simple, value, value)
            self.refused(("BadRule", "watch"), FrameRule.simple, value, "0")
        for value in [*any_values(), "", "00", 0, 1]:
            self.refused(("BadRule", "put"), FrameRule.simple, "01", value)


class BodyTest(Case):

    def test_bodies_sign_by_sign(self):
        chance = dealer(1)
        for _ in range(150):
            rule = dealt_rule(chance)
            for letter in [*letters_to(4), *[some_signs(chance, 5, 60) for _ in range(4)]]:
                body = slow_body(rule, letter)
                if body is None:
                    for work in (rule.body, rule.frame, rule.puts):
                        self.refused(("Clashing", "puts"), work, letter)
                    continue
                self.assertEqual(rule.body(letter), body)
                self.assertEqual(rule.frame(letter), body + rule.flag)
                self.assertEqual(rule.puts(letter), len(body) - len(letter))

    def test_the_longest_watch_comes_first(self):
        rule = FrameRule("11111", ("1", "0"), ("011", "1"), ("01", "0"), ("0010", "1"))
        for letter in letters_to(8):
            body = slow_body(rule, letter)
            if body is None:
                self.refused(("Clashing", "puts"), rule.body, letter)
            else:
                self.assertEqual(rule.body(letter), body)
        self.assertEqual(FrameRule("00", ("1", "1"), ("01", "0")).body("01"), "010")

    def test_puts_behind_puts(self):
        rule = FrameRule("0000", ("11", "0"), ("110", "1"), ("1101", "0"))
        self.assertEqual(rule.body("11"), "11010")
        self.assertEqual([rule.puts(letter) for letter in ("", "1", "11", "0110")], [0, 0, 3, 3])
        # A put takes part in the watch of the next one, across signs of the letter.
        self.assertEqual(FrameRule("0111111", ("011111", "0")).body("01111111111"), "0111110111110")

    def test_puts_without_an_end(self):
        self.assertEqual(LOOP.frame("111"), "111000")
        self.refused(("Clashing", "puts"), LOOP.frame, "10")
        # A long run of puts that has an end: each eight signs come once.
        rule = FrameRule("11111111", ("0", "1"), ("01", "1"), ("011", "1"), ("0111", "1"))
        self.assertEqual(rule.body("0"), "01111")
        turn = FrameRule("00", ("1", "0"), ("10", "0"), ("100", "1"))
        self.refused(("Clashing", "puts"), turn.body, letter="01")
        self.assertEqual(turn.body("000"), "000")

    def test_letters_of_all_sizes(self):
        self.assertEqual(len(HDLC.frame("0" * 200)), 207)
        self.assertEqual(HDLC.frame(""), "0111111")
        self.assertEqual(HDLC.letter_of(HDLC.frame("01" * 100)), "01" * 100)
        for value in [*any_values(), "0" * 201, "012", " "]:
            for work in (HDLC.body, HDLC.frame, HDLC.puts):
                self.refused(("BadLetter", value), work, value)

    def test_letter_of(self):
        chance = dealer(2)
        for _ in range(100):
            rule = dealt_rule(chance)
            frames = {}
            for letter in letters_to(6):
                body = slow_body(rule, letter)
                if body is not None:
                    frames[body] = letter
            for signs in letters_to(9):
                at = signs.find(rule.flag)
                if at < 0 or at + len(rule.flag) < len(signs):
                    self.refused(("BadFrame", "flag"), rule.letter_of, signs)
                elif signs[:at] in frames:
                    self.assertEqual(rule.letter_of(signs), frames[signs[:at]])
                elif error_of(rule.letter_of, signs) is None:
                    self.assertEqual(slow_body(rule, rule.letter_of(signs)), signs[:at])
                else:
                    self.refused(("BadFrame", "body"), rule.letter_of, signs)

    def test_what_is_no_frame(self):
        for value in [*any_values(), "01x", "0 1", 11]:
            self.refused(("BadFrame", "signs"), SHORT.letter_of, value)
        for signs in ("", "0", "01", "0110", "011011", "000"):
            self.refused(("BadFrame", "flag"), SHORT.letter_of, signs)
        # A put is wrong, a put is missing, puts have no end.
        for rule, signs in ((HDLC, "0111111"[:6] + "1" + "0111111"), (SHORT, "01" + "011"), (LOOP, "0" + "000")):
            self.assertIn(error_of(rule.letter_of, signs), [("BadFrame", "body"), ("BadFrame", "flag")])
        self.refused(("BadFrame", "body"), SHORT.letter_of, frame="01011")
        self.refused(("BadFrame", "body"), FrameRule("111", ("0", "0"), ("00", "1")).letter_of, "00111")

    def test_frames_of_more_than_200_signs(self):
        self.assertEqual(SHORT.letter_of("1" * 200 + "011"), "1" * 200)
        self.refused(("BadFrame", "body"), SHORT.letter_of, "1" * 201 + "011")
        self.refused(("BadFrame", "body"), SHORT.letter_of, "1" * 3997 + "011")
        self.assertEqual(SHORT.letter_of("0" + "10" * 199 + "011"), "0" + "1" * 199)


class StatesTest(Case):

    def test_states_of_all_bodies(self):
        chance = dealer(3)
        for _ in range(150):
            rule = dealt_rule(chance)
            words = [rule.flag, *[watch for watch, _ in rule.pairs]]
            bodies = [slow_body(rule, letter) for letter in letters_to(7)]
            found = error_of(rule.all_states)
            if None in bodies:
                self.assertEqual(found, ("Clashing", "puts"))
                continue
            if found is not None:
                # The puts could be endless behind a longer letter only; none of these rules is such.
                self.assertEqual(found, ("Clashing", "flag"))
                self.assertTrue([body for body in bodies if rule.flag in body])
                continue
            self.assertFalse([body for body in bodies if rule.flag in body])
            beginnings = {word[:many] for word in words for many in range(len(word) + 1)} - {rule.flag}
            states = {max([body[at:] for at in range(len(body) + 1) if body[at:] in beginnings], key=len)
                      for body in bodies}
            self.assertEqual(rule.all_states(), tuple(sorted(states, key=lambda state: (len(state), state))))

    def test_next_state(self):
        chance = dealer(4)
        for _ in range(100):
            rule = dealt_rule(chance)
            if error_of(rule.all_states) is not None:
                self.assertEqual(error_of(rule.next_state, None, None), error_of(rule.all_states))
                continue
            states = rule.all_states()
            for letter in letters_to(5):
                state, many = "", 0
                for sign in letter:
                    state, sent = rule.next_state(state, sign)
                    many += sent
                    self.assertIn(state, states)
                self.assertEqual(many, len(slow_body(rule, letter)))
                self.assertTrue(slow_body(rule, letter).endswith(state))

    def test_next_state_refused(self):
        self.assertEqual(SHORT.next_state(state="0", sign="1"), ("0", 2))
        for value in [*any_values(), "01", "1", "011", "00"]:
            self.refused(("BadFrame", "state"), SHORT.next_state, value, value)
        for value in [*any_values(), "", "00", "2", 0, 1]:
            self.refused(("BadLetter", value), SHORT.next_state, "0", value)

    def test_endless_puts_come_ahead_of_flags(self):
        both = FrameRule("11", ("0", "0"))
        self.refused(("Clashing", "puts"), both.all_states)
        self.refused(("Clashing", "puts"), both.next_state, None, None)
        # The puts without an end come behind a flag in the body alone.
        behind = FrameRule("11", ("110", "0"), ("1100", "0"), ("000", "0"))
        self.refused(("Clashing", "puts"), behind.all_states)
        self.refused(("Clashing", "flag"), FrameRule("11").all_states)
        self.refused(("Clashing", "flag"), FrameRule("0110", ("11", "0"), ("0", "1")).next_state, "", "0")
        # A flag that only puts make, within a body.
        self.refused(("Clashing", "flag"), FrameRule("0100", ("01", "0"), ("010", "0")).all_states)

    def test_a_border_is_no_clash(self):
        rule = FrameRule("111", ("11", "0"))
        self.assertEqual(rule.all_states(), ("", "1"))
        self.assertEqual(rule.next_state("1", "1"), ("", 2))


class RightnessTest(Case):

    def test_the_first_letter_against_a_rule(self):
        chance = dealer(5)
        many = {"Right": 0, "Wrong": 0}
        letters = letters_to(8)
        for _ in range(150):
            rule = dealt_rule(chance)
            answer = rightness(rule)
            against = next((letter for letter in letters if is_against(rule, letter)), None)
            if against is not None:
                self.assertEqual(answer, Wrong(against))
                self.assertIs(bool(answer), False)
            else:
                self.assertEqual(answer, Right(rule.all_states()))
                self.assertIs(bool(answer), True)
            self.assertIs(shows_right(rule, answer), True)
            many[type(answer).__name__] += 1
        self.assertGreater(min(many.values()), 20)

    def test_flags_with_a_border_within_a_body_and_endless_puts(self):
        for rule, letter in (
                (FrameRule("111", ("11", "0")), "1"), (FrameRule("11"), "1"), (FrameRule("01"), "01"), (LOOP, "0"),
                (FrameRule("0100", ("01", "0"), ("010", "0")), "01"), (FrameRule("1011", ("1011", "0")), "101"),
                (FrameRule("00", ("1", "0"), ("10", "1"), ("101", "0")), "0")):
            self.assertEqual(rightness(rule), Wrong(letter))
            self.assertTrue(is_against(rule, letter))
        self.assertEqual(rightness(HDLC), Right(("", "0", "01", "011", "0111", "01111")))
        self.assertEqual(rightness(rule=SHORT), Right(("", "0")))

    def test_shows_right(self):
        chance = dealer(6)
        for _ in range(40):
            rule = dealt_rule(chance)
            for letter in letters_to(5):
                self.assertIs(shows_right(rule, Wrong(letter)), is_against(rule, letter))
        states = ("", "0")
        for value in [*any_values(), Right(list(states)), Right(("0", "")), Right(("",)), Right(("", "0", "0")),
                      Right(("", "0", "01")), Right(""), Right(None), Right(7), Right([[["", "0"]]]), states]:
            self.assertIs(shows_right(SHORT, value), False)
        self.assertIs(shows_right(rule=SHORT, value=Right(("", "0"))), True)

    def test_shows_right_of_wrong_rules(self):
        border = FrameRule("111", ("11", "0"))
        for value in [Right(border.all_states()), Right(("",)), Wrong(""), Wrong(None), Wrong(["1"]), Wrong("2"),
                      Wrong("1" * 201), Wrong(("1",)), "1", *any_values()]:
            self.assertIs(shows_right(border, value), False)
        self.assertIs(shows_right(border, Wrong("1" * 199 + "1")), not len(border.body("1" * 200)) % 3 == 0)
        self.assertIs(shows_right(border, Wrong("01")), True)
        self.assertIs(shows_right(LOOP, Wrong("1110111")), True)
        self.assertIs(shows_right(LOOP, Wrong("1" * 200)), False)

    def test_what_is_no_rule(self):
        for value in any_values():
            if not isinstance(value, FrameRule):
                self.refused(("BadRule", "rule"), rightness, value)
                self.refused(("BadRule", "rule"), shows_right, value, None)

    def test_papers(self):
        self.assertEqual(Right([1, None]), Right([1, None]))
        self.assertNotEqual(Right(()), Wrong(()))
        self.assertNotEqual(Right(()), Right([]))
        self.assertEqual((Right(states=5).states, Wrong(letter={}).letter), (5, {}))
        self.assertFalse(Wrong("1") == "1")




class TextsTest(Case):

    def test_there_and_back(self):
        chance = dealer(7)
        for _ in range(200):
            rule = dealt_rule(chance)
            self.assertEqual(FrameRule.read(str(rule)), rule)
        for text in ("01 :", "011 : 01 0", "01010101 : 0 1 , 00 0 , 1 1 , 11111111 0"):
            self.assertEqual(str(FrameRule.read(text=text)), text)

    def test_words_that_cannot_stand(self):
        for text, word in (
                ("", 0), ("0", 0), (" :", 0), ("012 :", 0), ("011111111 :", 0), (": 01", 0), ("01", 1), ("01 ", 1),
                ("01 01 0", 1), ("01:", 0), ("01 : ", 2), ("01 : :", 2), ("01 : 2 0", 2), ("01 : 000000000 0", 2),
                ("01 : ,", 2), ("01 : 0", 3), ("01 : 0 ", 3), ("01 : 0 2", 3), ("01 : 0 00", 3), ("01 : 0 ,", 3),
                ("01 : 0 0 ", 4), ("01 : 0 0 1 0", 4), ("01 : 0 0, 1 0", 3), ("01 : 0 0 ,", 5), ("01 : 0 0 , ", 5),
                ("01 : 0 0 , 0 1", 5), ("01 : 1 0 , 0 1", 5), ("01 : 01 0 , 0 1", 5), ("01 : 0 0 , 1", 6),
                ("01 : 0 0 , 00 0 , 01 0 , 1 0 x", 13), ("01 : 0 0 , 00 0 , 01 0 , 1 0 ,", 14),
                ("01 : 0 0 , 00 0 , 01 0 , 1 0 , 11 0", 14), ("01 : 0 0 , 00 0 , 01 0 , 1 0 , 11", 14),
                ("01\n : 0 0", 0)):
            self.refused(("BadText", 0, word), FrameRule.read, text)

    def test_what_is_no_string(self):
        for value in any_values():
            self.refused(("BadText", 0, 0), FrameRule.read, value)
