"""REPORTs, and settings, rounds and reports as texts."""

from sawrounds.errors import BadParameter
from sawrounds.fractions import is_same
from sawrounds.means import mean_of_setting
from sawrounds.points import start_phase
from sawrounds.rhythms import need_rounds
from sawrounds.settings import need_setting
from sawrounds.wording import F, MANY, N, fraction_told, fraction_word, read_words

SETTING_FORM = ("setting", F, F, F, F)
ROUNDS_FORM = ("rounds", "(", MANY, ")")
REPORT_FORM = ("report", F, F, F, F, F, F, N, N)


def report_of(setting, start):
    """The REPORT of a SETTING and a START."""
    ticks, _, phase = start_phase(setting, start)
    return (setting, start, mean_of_setting(setting), ticks, phase)


def need_report(report):
    """report, if it is a REPORT."""
    if type(report) != tuple or len(report) != 5:
        raise BadParameter(report)
    if not is_same(report, report_of(report[0], report[1])):
        raise BadParameter(report)
    return report


def row_of(head, fractions):
    """One row: its first word, and fractions behind it."""
    return " ".join([head] + [fraction_word(one) for one in fractions])


def setting_text(setting):
    """A SETTING as a text."""
    return row_of("setting", need_setting(setting))


def read_setting(text):
    """The SETTING that a text tells."""
    words = read_words(text, SETTING_FORM)
    return need_setting(tuple([fraction_told(word) for word in words[1:]]))


def rounds_text(rounds):
    """ROUNDS as a text."""
    words = [str(ticks) for ticks in need_rounds(rounds)]
    return " ".join(["rounds", "("] + words + [")"])


def read_rounds(text):
    """The ROUNDS that a text tells."""
    words = read_words(text, ROUNDS_FORM)
    return need_rounds(tuple([int(word) for word in words[2:-1]]))


def report_text(report):
    """A REPORT as a text of two rows."""
    setting, start, mean, ticks, phase = need_report(report)
    behind = [fraction_word(one) for one in (start, mean, (ticks, 1), (phase, 1))]
    return row_of("report", setting) + "\n" + " ".join(behind)


def read_report(text):
    """The REPORT that a text tells."""
    words = read_words(text, REPORT_FORM)
    told = [fraction_told(word) for word in words[1:7]]
    return need_report((tuple(told[:4]), told[4], told[5], int(words[7]), int(words[8])))
