"""Promises 50 and 51: states and deeds."""

import random
import unittest
from unittest.mock import Mock

from sawrounds.errors import BadDeed, BadParameter, BadSetting, NoRow, TooGreat
from sawrounds.far import ticks_of_cut
from sawrounds.means import mean_of_setting
from sawrounds.sessions import begun, need_state, played, session_step
from sawrounds.settings import need_setting, setting_of
from sawrounds.ticks import first_ticks
from tests.support import (
    FIRST, MOST, NO_FRACTIONS, NO_SETTINGS, NO_STARTS, NO_STEPS, SECOND, TOO_GREAT, Odd, check, check_error,
    check_refusals, check_refused, check_too_great, no_numbers, refused, wrong_settings,
)

START = (0, 1)
STATE = (FIRST, START, ())
THIRD = ((20, 1), (1, 1), (1, 2), (0, 1))
# Behind the deeds ("step", (3, 2)), ("start", (1, 1)), ("limit", (20, 1)).
LATER = (
    ((20, 1), (3, 2), (1, 2), (0, 1)), (1, 1), ((FIRST, START), (SECOND, START), (SECOND, (1, 1))),
)
NO_STATES = [
    None, True, 0, 3, 1.5, "", "abc", b"abc", [], list(STATE), {}, set(STATE), (), STATE[:1], STATE[:2], STATE + ((),),
    (STATE,), FIRST, object(), Odd(), Mock(spec=tuple), tuple, (None,) * 4,
]
NO_PASTS = [
    None, True, 0, "", "ab", b"", [], [(FIRST, START)], {}, set(), ((FIRST, START),) * 201, (None,) * 201, object(), Odd(),
    Mock(spec=tuple), tuple,
]
NO_PAIRS = [
    None, True, 0, "ab", [], [FIRST, START], (), (FIRST,), (FIRST, START, ()), STATE, FIRST, START, {FIRST: START},
    (START, FIRST), (FIRST, (11, 1)), (FIRST, (2, 2)), (FIRST, None), (None, START), (list(FIRST), START), object(), Odd(),
    (FIRST[:3], START), (FIRST[:3] + ((5, 1),), START), (FIRST, Odd()), (Odd(), START), Mock(spec=tuple),
]
NO_DEEDS = [
    None, True, 0, "mean", b"mean", "", [], ["mean"], {}, {"mean"}, (), ("Mean",), ("means",), ("mea",), ("",), (None,),
    ("mean", None), ("mean", ()), ("first", 0), ("first", START), ("cut",), ("cut", 1, 2), ("undo", 1), ("undo", None),
    ("limit",), ("limit", (10, 1), (1, 1)), ("step",), ("step", 3, 2), ("part",), ("part", 1, 2), ("keep",),
    ("keep", (0, 1), None), ("start",), ("start", 0, 1), (("mean",),), (("undo",),), ("limit ", (10, 1)), (b"limit", (10, 1)),
    (0, (10, 1)), (True, 1), ((), 1), ([], 1), ({}, 1), (Odd(), 1), (Odd(),), (1.5, 2), ("setting", FIRST), ("redo",),
    Mock(spec=tuple), tuple, Odd(), object(), (10, 1), FIRST, ("mean", "mean"), ("undo",) * 2, (str,), (str, 1),
]


def wrong_states():
    """Wrong states, each with the error that it is refused with."""
    found = [(wrong, BadDeed, ()) for wrong in NO_STATES]
    for wrong, kind, told in wrong_settings():
        found.append(((wrong, START, ()), kind, told))
        found.append(((wrong, None, None), kind, told))
    for wrong in NO_STARTS:
        found.append(((FIRST, wrong, ()), BadParameter, wrong))
        found.append(((FIRST, wrong, None), BadParameter, wrong))
    for wrong in NO_PASTS:
        found.append(((FIRST, START, wrong), BadDeed, (2,)))
    for wrong in NO_PAIRS:
        found.append(((FIRST, START, (wrong,)), BadDeed, (2, 0)))
        found.append(((FIRST, START, ((SECOND, START), (THIRD, START), wrong, None)), BadDeed, (2, 2)))
        found.append(((FIRST, START, ((SECOND, START),) * 199 + (wrong,)), BadDeed, (2, 199)))
    return found


class Plain:
    """A session as the document's words tell it: every state it ever had is kept."""

    def __init__(self, setting, start):
        self.rows = [(setting, start)]

    def sets(self, word, told):
        setting, start = self.rows[-1]
        if word == "start":
            self.rows.append((setting, told))
        else:
            now = list(setting)
            now[["limit", "step", "part", "keep"].index(word)] = told
            self.rows.append((tuple(now), start))

    def state(self):
        return self.rows[-1] + (tuple(self.rows[:-1]),)

    def answers(self, deed):
        setting, start = self.rows[-1]
        if deed[0] == "mean":
            return mean_of_setting(setting)
        if deed[0] == "first":
            return first_ticks(setting, start)
        return ticks_of_cut(setting, start, deed[1])


def refusal(setting, start):
    """What refuses a setting and a start, None for nothing."""
    try:
        begun(setting, start)
    except (BadSetting, BadParameter) as error:
        return (type(error), getattr(error, "place", None), getattr(error, "value", None))
    return None


class Refused(unittest.TestCase):
    def test_begun(self):
        check_refusals(self, begun, {"setting": FIRST, "start": START}, {
            "setting": wrong_settings(), "start": refused(NO_STARTS),
        })

    def test_states(self):
        wrongs = {"state": wrong_states(), "deed": [(wrong, BadDeed, ()) for wrong in NO_DEEDS]}
        check_refusals(self, need_state, {"state": STATE}, wrongs)
        check_refusals(self, session_step, {"state": STATE, "deed": ("mean",)}, wrongs)
        check_refusals(self, session_step, {"state": LATER, "deed": ("undo",)}, wrongs)

    def test_played(self):
        no_tuples = [None, True, 0, "", "mean", [], [("mean",)], {}, set(), object(), Odd(), Mock(spec=tuple), tuple]
        check_refusals(self, played, {"setting": FIRST, "start": START, "deeds": (("mean",),)}, {
            "setting": wrong_settings(), "start": refused(NO_STARTS), "deeds": refused(no_tuples),
        })
        for wrong in NO_DEEDS:
            check_error(self, BadDeed, (), played, FIRST, START, (wrong,))
            check_error(self, BadDeed, (), played, FIRST, START, (("mean",), wrong, None))

    def test_what_is_set(self):
        for place, word in enumerate(["limit", "step", "part", "keep"]):
            for wrong in NO_FRACTIONS + [(0, 1), (-1, 2), (3, 2), (MOST, 1)]:
                there = FIRST[:place] + (wrong,) + FIRST[place + 1:]
                told = refusal(there, START)
                if told is None:
                    session_step(STATE, (word, wrong))
                else:
                    kind, where, value = told
                    check_error(self, kind, where if kind is BadSetting else value, session_step, STATE, (word, wrong))
        for wrong in NO_STEPS:
            check_error(self, BadSetting, (1,), session_step, STATE, ("step", wrong))
        # 12 is PART times 10 and 14.
        check_error(self, BadSetting, (), session_step, STATE, ("step", (14, 1)))
        check_error(self, BadSetting, (), session_step, STATE, ("keep", (5, 1)))
        check_error(self, BadSetting, (), session_step, STATE, ("part", (999, 1000)))
        check_error(self, BadSetting, (), session_step, STATE, ("limit", (1, 2)))

    def test_a_start_that_is_none_of_the_new_setting(self):
        state = (FIRST, (9, 1), ())
        check_refused(self, state[1], session_step, state, ("limit", (8, 1)))
        check(self, session_step(state, ("limit", (9, 1)))[0][0], ((9, 1),) + FIRST[1:])
        # No setting is told ahead of it.
        check_error(self, BadSetting, (), session_step, state, ("limit", (1, 2)))
        check_error(self, BadSetting, (0,), session_step, state, ("limit", (2, 2)))
        for wrong in NO_STARTS:
            check_refused(self, wrong, session_step, STATE, ("start", wrong))

    def test_questions(self):
        for part, height in TOO_GREAT:
            state = begun(setting_of(part, height), START)
            check_too_great(self, 300, session_step, state, ("mean",))
            check_too_great(self, 300, session_step, state, ("cut", 0))
            session_step(state, ("first",))
            for wrong in (-1, MOST + 1, None, True):
                check_refused(self, wrong, session_step, state, ("cut", wrong))
        for wrong in no_numbers(0, MOST):
            check_refused(self, wrong, session_step, STATE, ("cut", wrong))

    def test_nothing_to_take_back(self):
        check_error(self, NoRow, (), session_step, STATE, ("undo",))
        check_error(self, NoRow, (), played, FIRST, START, (("undo",),))
        check_error(self, NoRow, (), played, FIRST, START, (("start", START), ("undo",), ("undo",)))
        check_error(self, NoRow, (), played, FIRST, START, (("mean",), ("undo",)))

    def test_two_hundred(self):
        full = (FIRST, START, ((SECOND, (1, 1)),) * 200)
        need_state(full)
        for deed in [("limit", (10, 1)), ("step", (3, 2)), ("part", (1, 3)), ("keep", (1, 1)), ("start", START)]:
            check_too_great(self, 200, session_step, full, deed)
            check(self, len(session_step((FIRST, START, full[2][1:]), deed)[0][2]), 200)
        # All other errors come first.
        check_error(self, BadSetting, (0,), session_step, full, ("limit", None))
        check_error(self, BadSetting, (), session_step, full, ("keep", (5, 1)))
        check_refused(self, (11, 1), session_step, full, ("start", (11, 1)))
        check_error(self, BadDeed, (), session_step, full, ("start",))
        # What sets nothing is let.
        check(self, session_step(full, ("mean",)), (full, (5, 1)))
        check(self, session_step(full, ("undo",)), ((SECOND, (1, 1), full[2][1:]), None))
        many = (("start", (1, 1)),) * 200
        check(self, len(played(FIRST, START, many)[0][2]), 200)
        check_error(self, TooGreat, 200, played, FIRST, START, many + (("start", (1, 1)),))
        check(self, played(FIRST, START, many + (("undo",), ("start", (1, 1))))[0][2], ((FIRST, START),) + ((FIRST, (1, 1)),) * 199)
        check_error(self, TooGreat, 200, played, FIRST, START, many + (("undo",), ("start", (1, 1)), ("keep", (0, 1))))


class States(unittest.TestCase):
    def test_begun(self):
        check(self, begun(FIRST, START), STATE)
        check(self, begun(start=(-MOST, 1), setting=SECOND), (SECOND, (-MOST, 1), ()))

    def test_as_they_are(self):
        for state in (STATE, LATER, (FIRST, START, ((FIRST, START),) * 200)):
            self.assertIs(need_state(state), state)
            self.assertIs(need_state(state=state), state)
        # Whether deeds lead from one to the next isn't asked.
        need_state((FIRST, START, ((THIRD, (19, 1)), (SECOND, (-7, 3)))))


class Deeds(unittest.TestCase):
    def test_the_example(self):
        deeds = (("first",), ("mean",), ("step", (3, 2)), ("mean",))
        state = (SECOND, START, ((FIRST, START),))
        check(self, played(FIRST, START, deeds), (state, ((11, (1, 1)), (5, 1), None, (7, 2))))
        check(self, played(deeds=deeds, start=START, setting=FIRST), (state, ((11, (1, 1)), (5, 1), None, (7, 2))))

    def test_one_by_one(self):
        check(self, session_step(STATE, ("step", (3, 2))), ((SECOND, START, ((FIRST, START),)), None))
        check(self, session_step(deed=("start", (1, 1)), state=STATE), ((FIRST, (1, 1), ((FIRST, START),)), None))
        check(self, session_step(STATE, ("mean",)), (STATE, (5, 1)))
        check(self, session_step(STATE, ("first",)), (STATE, (11, (1, 1))))
        check(self, session_step(STATE, ("cut", 2)), (STATE, 21))
        check(self, session_step(STATE, ("cut", MOST)), (STATE, 11 + 5 * MOST))
        check(self, played(FIRST, START, ()), (STATE, ()))
        deeds = (("step", (3, 2)), ("start", (1, 1)), ("limit", (20, 1)))
        check(self, played(FIRST, START, deeds), (LATER, (None, None, None)))
        check(self, session_step(LATER, ("undo",)), (LATER[2][2] + (LATER[2][:2],), None))
        check(self, played(FIRST, START, deeds + (("undo",),) * 3), (STATE, (None,) * 6))

    def test_set_to_what_it_was(self):
        for place, word in enumerate(["limit", "step", "part", "keep"]):
            got = session_step(STATE, (word, FIRST[place]))
            check(self, got, ((FIRST, START, ((FIRST, START),)), None))
            check(self, session_step(got[0], ("undo",)), (STATE, None))
        check(self, session_step(STATE, ("start", START)), ((FIRST, START, ((FIRST, START),)), None))

    def test_rows_of_deeds(self):
        chance = random.Random(3)
        let = refused_ones = 0
        for _ in range(60):
            plain, state, deeds, answers = Plain(FIRST, START), begun(FIRST, START), [], []
            for _ in range(40):
                deed = self.some_deed(chance)
                wanted = self.wanted(plain, deed)
                if isinstance(wanted, type):
                    refused_ones += 1
                    with self.assertRaises(wanted):
                        session_step(state, deed)
                    with self.assertRaises(wanted):
                        played(FIRST, START, tuple(deeds + [deed]))
                else:
                    let += 1
                    state, answer = session_step(state, deed)
                    check(self, answer, wanted[0])
                    deeds.append(deed)
                    answers.append(answer)
                check(self, state, plain.state())
            check(self, played(FIRST, START, tuple(deeds)), (state, tuple(answers)))
            check(self, need_state(state), state)
        self.assertGreater(let, 1000)
        self.assertGreater(refused_ones, 300)

    def some_deed(self, chance):
        """A deed, let or not let."""
        word = chance.choice(["limit", "step", "part", "keep", "start", "mean", "first", "cut", "undo", "undo"])
        if word in ("mean", "first", "undo"):
            return (word,)
        if word == "cut":
            return (word, chance.choice([0, 1, 7, 10 ** 20, MOST, -1, MOST + 1, (1, 1)]))
        fractions = {
            "limit": [(10, 1), (20, 1), (7, 2), (-3, 1), (2, 2), (100, 7)],
            "step": [(1, 1), (3, 2), (1, 7), (5, 1), (0, 1), (100, 1)],
            "part": [(1, 2), (1, 3), (9, 10), (1, 1), (1, 1000), (3, 2)],
            "keep": [(0, 1), (1, 1), (-1, 1), (9, 2), (100, 1), (1, 0)],
            "start": [(0, 1), (1, 1), (10, 1), (15, 1), (-7, 3), (3, 6)],
        }
        return (word, chance.choice(fractions[word]))

    def wanted(self, plain, deed):
        """The answer in a tuple, or the kind of the error; plain does the deed."""
        if deed[0] in ("mean", "first", "cut"):
            try:
                return (plain.answers(deed),)
            except (BadParameter, TooGreat) as error:
                return type(error)
        if deed[0] == "undo":
            if len(plain.rows) == 1:
                return NoRow
            plain.rows.pop()
            return (None,)
        plain.sets(*deed)
        told = refusal(*plain.rows[-1])
        if told is not None:
            plain.rows.pop()
            return told[0]
        return (None,)

    def test_what_is_asked_changes_nothing(self):
        for deeds in [(), (("step", (3, 2)),), (("step", (3, 2)), ("start", (1, 1)), ("undo",))]:
            state, answers = played(FIRST, START, deeds)
            asked = deeds + (("mean",), ("first",), ("cut", 5))
            there, more = played(FIRST, START, asked)
            check(self, there, state)
            check(self, more[:len(answers)], answers)
            for deed, answer in zip(asked[len(deeds):], more[len(deeds):]):
                check(self, session_step(state, deed), (state, answer))
                # By setting and start alone.
                check(self, session_step(begun(state[0], state[1]), deed)[1], answer)

    def test_the_first_one_that_is_refused(self):
        check_error(self, BadDeed, (), played, FIRST, START, (("mean",), ("undone",), ("limit", None)))
        check_error(self, BadSetting, (0,), played, FIRST, START, (("mean",), ("limit", None), ("undone",)))
        check_refused(self, -1, played, FIRST, START, (("cut", -1), ("undo",)))
        check_error(self, NoRow, (), played, FIRST, START, (("undo",), ("cut", -1)))

    def test_whatever_the_start_the_mean_is_the_same(self):
        for start in [(0, 1), (10, 1), (-MOST, 1), (1, MOST)]:
            check(self, played(FIRST, START, (("start", start), ("mean",)))[1], (None, (5, 1)))

    def test_settings_of_states_are_settings(self):
        state, _ = played(FIRST, START, (("keep", (-MOST, 1)), ("limit", (MOST, 1)), ("step", (MOST, 1))))
        check(self, need_setting(state[0]), ((MOST, 1), (MOST, 1), (1, 2), (-MOST, 1)))
        check(self, session_step(state, ("mean",))[1], (2, 1))

    def test_many_deeds(self):
        deeds = (("start", (1, 1)), ("first",), ("undo",)) * 1000
        check(self, played(FIRST, START, deeds), (STATE, (None, (10, (1, 1)), None) * 1000))


class NoMoreThanTold(unittest.TestCase):
    def test_no_state_is_a_setting(self):
        for wrong in NO_SETTINGS:
            check_error(self, BadSetting, (), need_state, (wrong, START, ()))


if __name__ == "__main__":
    unittest.main()
