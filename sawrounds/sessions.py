"""Sessions: a setting and a start that are changed by deeds, and asked."""

from sawrounds.errors import BadDeed, BadParameter, BadSetting, NoRow, TooGreat
from sawrounds.far import ticks_of_cut
from sawrounds.means import mean_of_setting
from sawrounds.settings import need_start
from sawrounds.ticks import first_ticks

MOST_PAST = 200

# The words of all deeds, and how many things a deed with this word has.
LENGTHS = {"limit": 2, "step": 2, "part": 2, "keep": 2, "start": 2, "mean": 1, "first": 1, "cut": 2, "undo": 1}
QUESTIONS = ("mean", "first", "cut")
PLACES = ("limit", "step", "part", "keep")


def is_begun(value):
    """Whether value is a pair of a SETTING and a START of it."""
    if type(value) != tuple or len(value) != 2:
        return False
    try:
        need_start(value[0], value[1])
    except (BadSetting, BadParameter):
        return False
    return True


def is_deed(deed):
    """Whether deed is one of the deeds, whatever stands behind its word."""
    if type(deed) != tuple or len(deed) == 0 or type(deed[0]) != str:
        return False
    return LENGTHS.get(deed[0]) == len(deed)


def begun(setting, start):
    """The state in which nothing was done."""
    need_start(setting, start)
    return (setting, start, ())


def need_state(state):
    """state, if it is a STATE."""
    if type(state) != tuple or len(state) != 3:
        raise BadDeed(())
    setting, start, past = state
    need_start(setting, start)
    if type(past) != tuple or len(past) > MOST_PAST:
        raise BadDeed((2,))
    for at, ahead in enumerate(past):
        if not is_begun(ahead):
            raise BadDeed((2, at))
    return state


def answer_of(setting, start, deed):
    """The answer of a deed that asks."""
    if deed[0] == "mean":
        return mean_of_setting(setting)
    if deed[0] == "first":
        return first_ticks(setting, start)
    return ticks_of_cut(setting, start, deed[1])


def changed(setting, start, deed):
    """The setting and the start behind a deed that sets something, checked."""
    word, told = deed
    if word == "start":
        start = told
    else:
        at = PLACES.index(word)
        setting = (*setting[:at], told, *setting[at + 1:])
    need_start(setting, start)
    return (setting, start)


def step_done(state, deed):
    """The pair (STATE, ANSWER) behind a deed; the state was checked."""
    if not is_deed(deed):
        raise BadDeed(())
    setting, start, past = state
    if deed[0] in QUESTIONS:
        return (state, answer_of(setting, start, deed))
    if deed[0] == "undo":
        if len(past) == 0:
            raise NoRow()
        return ((*past[-1], past[:-1]), None)
    behind = changed(setting, start, deed)
    if len(past) == MOST_PAST:
        raise TooGreat(MOST_PAST)
    return ((*behind, (*past, (setting, start))), None)


def session_step(state, deed):
    """The pair (STATE, ANSWER) behind a deed."""
    return step_done(need_state(state), deed)


def played(setting, start, deeds):
    """The pair (STATE, ANSWERS) behind all deeds of a tuple."""
    state = begun(setting, start)
    if type(deeds) != tuple:
        raise BadParameter(deeds)
    answers = []
    for deed in deeds:
        state, answer = step_done(state, deed)
        answers.append(answer)
    return (state, tuple(answers))
