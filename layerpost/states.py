"""How a body goes on behind its last signs, for the class FrameRule.

The words of a rule are its flag and its watches. A state is the longest ending
of the signs sent so far that is a beginning of a word: no word ends later than
the state tells, so what comes hangs on the state alone.
"""

from layerpost.errors import Clashing

MOST_WORD_SIGNS = 8


def put_behind(signs, pairs):
    """The put of the longest watch with which these signs end; empty if there is none."""
    longest, sign = "", ""
    for watch, put in pairs:
        if len(watch) > len(longest) and signs.endswith(watch):
            longest, sign = watch, put
    return sign


def sent_behind(signs, sign, pairs):
    """A sign of a letter and the puts behind it, None if these have no end."""
    sent = sign
    tails = {}
    while True:
        tail = (signs + sent)[-MOST_WORD_SIGNS:]
        put = put_behind(tail, pairs)
        if put == "":
            return sent
        # The last signs tell all that comes, so the same ones again come for ever.
        if tail in tails:
            return None
        tails[tail] = True
        sent = sent + put


def state_of(signs, flag, pairs):
    """The longest ending of these signs that is a beginning of a word of the rule."""
    words = [flag, *[watch for watch, _ in pairs]]
    ending = signs[-MOST_WORD_SIGNS:]
    while not any([word.startswith(ending) for word in words]):
        ending = ending[1:]
    return ending


def walked(flag, pairs):
    """All states that come, as triples: the least letter that leads there, the state, its moves.

    The moves are a pair for the signs 0 and 1: the next state and what is sent,
    or None where puts have no end. Shorter letters come first, then lesser ones.
    """
    letters = {"": ""}
    order = [""]
    rows = []
    while len(rows) < len(order):
        state = order[len(rows)]
        moves = []
        for sign in "01":
            sent = sent_behind(state, sign, pairs)
            if sent is None:
                moves.append(None)
                continue
            after = state_of(state + sent, flag, pairs)
            moves.append((after, sent))
            if after not in letters:
                letters[after] = letters[state] + sign
                order.append(after)
        rows.append((letters[state], state, tuple(moves)))
    return rows


def moves_of(flag, pairs):
    """A dict from each state to its pair of moves."""
    rows = walked(flag, pairs)
    if any([None in moves for _, _, moves in rows]):
        raise Clashing("puts")
    if any([flag in state + sent for _, state, moves in rows for _, sent in moves]):
        raise Clashing("flag")
    return {state: moves for _, state, moves in rows}


def in_order(states):
    """These states as a tuple, shorter ones first, of equal length ascending."""
    return tuple(sorted(states, key=lambda state: (len(state), state)))


def is_breaking(flag, state, move):
    """Whether puts have no end in this move, or a flag comes in it, or begins with it."""
    if move is None:
        return True
    after, sent = move
    return flag in state + sent or (after + flag).find(flag) < len(after)


def first_break(flag, pairs):
    """The shortest, then least letter that breaks a rule, None if there is none."""
    for letter, state, moves in walked(flag, pairs):
        for sign, move in zip("01", moves):
            if is_breaking(flag, state, move):
                return letter + sign
    return None


def letter_of_body(body, pairs):
    """The letter with this body, None if there is none."""
    letter = ""
    at = 0
    while at < len(body):
        letter = letter + body[at]
        at += 1
        put = put_behind(body[max(0, at - MOST_WORD_SIGNS):at], pairs)
        while put != "":
            if body[at:at + 1] != put:
                return None
            at += 1
            put = put_behind(body[max(0, at - MOST_WORD_SIGNS):at], pairs)
    return letter
