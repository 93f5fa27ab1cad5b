"""Promises 47, 48 and 49: reports, and what is written and read."""

import random
import re
import unittest
from unittest.mock import Mock

from sawrounds.errors import BadParameter, BadRounds, BadSetting, BadText
from sawrounds.far import ticks_of_cut
from sawrounds.means import mean_of_setting
from sawrounds.points import start_phase
from sawrounds.settings import moved, scaled, setting_of
from sawrounds.texts import (
    need_report, read_report, read_rounds, read_setting, report_of, report_text, rounds_text, setting_text,
)
from sawrounds.ticks import first_ticks
from tests.support import (
    FIRST, MOST, NO_STARTS, SECOND, TOO_GREAT, Odd, check, check_error, check_refusals, check_refused, check_too_great,
    height_for, refused, wrong_rounds, wrong_settings,
)

REPORT = (SECOND, (0, 1), (7, 2), 7, 0)
WRONGS = {"setting": wrong_settings(), "start": refused(NO_STARTS), "rounds": wrong_rounds()}

ROUNDS = [
    (), (1,), (3, 4), (3,) * 300, (MOST, 1, MOST), tuple(range(1, 301)), (10, 100, 1000), (3, 4, 4, 3, 3),
    tuple(10 ** at for at in range(31)),
]


def settings_tried():
    """Settings of all kinds of numbers."""
    found = [FIRST, SECOND, ((MOST, 1), (7, MOST), (1, 3), (0, 1)), ((-7, 3), (1, 10 ** 9), (999, 1000), (-22, 7))]
    found.append(((0, 1), (MOST, 1), (1, 2), (-MOST, 1)))
    found.append(((-1, MOST), (1, MOST), (1, 1000), (-MOST, MOST - 1)))
    for part, mean in [((1, 2), (1, 1)), ((2, 3), (3, 2)), ((9, 10), (13, 8)), ((9, 10), (487, 300))]:
        setting = setting_of(part, height_for(part, mean))
        found += [setting, scaled(setting, (3, 7))]
        if max(setting[3]) < 10 ** 20:
            found.append(moved(setting, (-1, 3)))
    return found


SETTINGS = [one for one in settings_tried() if all(max(abs(n), d) <= MOST for n, d in one)]


def reports_tried():
    """Reports of settings and starts, those that have one."""
    found = []
    for setting in SETTINGS:
        for start in (setting[0], (-(10 ** 29), 1), (-MOST, 1), (-MOST, MOST - 1)):
            try:
                found.append(report_of(setting, start))
            except ValueError:
                pass
    return found


REPORTS = reports_tried()

# The words, by other means than the package's.
PLAIN_N = "(?:0|[1-9][0-9]{0,3999})"
PLAIN_F = "(?:(?:%s|-[1-9][0-9]{0,3999})(?:/(?:[2-9]|[1-9][0-9]{1,3999}))?)" % PLAIN_N


def plain_place(text, head, wanted):
    """The place of the first wrong word, None if all stands as wanted.

    wanted tells how many words there may be behind the head, and each one.
    """
    rows = [[word for word in re.split("[ \n]", row) if word] for row in text.split("\n")]
    words = [(word, line, at) for line, row in enumerate(rows) for at, word in enumerate(row)]
    for many, (word, line, at) in enumerate(words):
        pattern = head if many == 0 else wanted(many, [one for one, _, _ in words])
        if pattern is None or not re.fullmatch(pattern, word):
            return (line, at)
    if wanted(len(words), [one for one, _, _ in words]) is not None or not words:
        return (len(rows) - 1, len(rows[-1]))
    return None


def of_setting(many, words):
    """What is wanted at a place of a setting."""
    return PLAIN_F if 0 < many < 5 else None


def of_report(many, words):
    """What is wanted at a place of a report."""
    return (PLAIN_F if many < 7 else PLAIN_N) if 0 < many < 9 else None


def of_rounds(many, words):
    """What is wanted at a place of rounds."""
    if many == 1:
        return r"\("
    if ")" in words[2:many]:
        return None
    return r"\)|" + PLAIN_N


KINDS = [
    ("setting", of_setting, read_setting, setting_text, SETTINGS),
    ("report", of_report, read_report, report_text, REPORTS),
    ("rounds", of_rounds, read_rounds, rounds_text, ROUNDS),
]

# Words that are exchanged for others and put in.
WORDS = [
    "setting", "report", "rounds", "(", ")", "0", "1", "2", "10", "-1", "-0", "00", "01", "-01", "1/2", "2/4", "-1/2",
    "1/1", "1/0", "1/-2", "0/2", "-0/2", "1/02", "1/", "/2", "/", "-", "--1", "+1", "1.5", "1e3", "1_000", "a", "Setting",
    "settings", "((", "()", ")(", "3,", "x", "\t", "1\t", "\t1", "1\r", "\u00a0", "1\u00a02", "\u0661", "\u00b2", "\uff11",
    "1/\u0662", "N", "F", "N..", "\ud800", "1/2/3", "7" * 4000, "7" * 4001, "-" + "7" * 4000, "-" + "7" * 4001,
    "1/" + "7" * 4000, "1/" + "7" * 4001, "0" * 4000, "1\x0b2", "1\x0c", "\x1c", "\u2028", "\u0085", "None", "True",
]


class Refused(unittest.TestCase):
    def test_of_reports(self):
        check_refusals(self, report_of, {"setting": SECOND, "start": (0, 1)}, WRONGS)

    def test_of_texts(self):
        check_refusals(self, setting_text, {"setting": SECOND}, WRONGS)
        check_refusals(self, rounds_text, {"rounds": (3, 4)}, WRONGS)

    def test_no_reports(self):
        wholes = [
            None, True, 0, 5, "", "abcde", b"abcde", [], list(REPORT), {}, set(REPORT), (), REPORT[:4], REPORT + (0,),
            (REPORT,), REPORT[1:], object(), Odd(), Mock(spec=tuple), tuple, (None,) * 4, (None,) * 6,
        ]
        for function in (need_report, report_text):
            check_refusals(self, function, {"report": REPORT}, {"report": refused(wholes)})
            for wrong, kind, told in WRONGS["setting"]:
                check_error(self, kind, told, function, (wrong,) + REPORT[1:])
                check_error(self, kind, told, function, (wrong, None, None, None, None))
            for wrong in NO_STARTS:
                check_refused(self, wrong, function, (SECOND, wrong) + REPORT[2:])
                check_refused(self, wrong, function, (SECOND, wrong, None, None, None))

    def test_other_things_than_told(self):
        others = {
            2: [None, (7, 3), (14, 4), (5, 1), [7, 2], (7, 2, 1), 7, (True, 2), ((7, 2),), Odd(), (7, Odd()), (7.0, 2)],
            3: [None, 6, 8, 0, -7, 7.0, "7", (7, 1), (7,), True, Odd(), 10 ** 5000],
            4: [None, 1, -1, 2, 0.0, False, "0", (0, 1), (), Odd(), 10 ** 5000],
        }
        for at, wrongs in others.items():
            for wrong in wrongs:
                report = REPORT[:at] + (wrong,) + REPORT[at + 1:]
                check_refused(self, report, need_report, report)
                check_refused(self, report, report_text, report)
        # A report that was let, with 1 and 0 exchanged for True and False.
        report = report_of(FIRST, (10, 1))
        check(self, report, (FIRST, (10, 1), (5, 1), 1, 0))
        for wrong in [report[:3] + (True, 0), report[:4] + (False,), report[:2] + ((5, True), 1, 0)]:
            check_refused(self, wrong, need_report, wrong)
        # That of another start, and that of another setting.
        wrong = (SECOND, (1, 1)) + REPORT[2:]
        check_refused(self, wrong, need_report, wrong)
        wrong = (FIRST,) + REPORT[1:]
        check_refused(self, wrong, need_report, wrong)

    def test_too_great(self):
        for part, height in TOO_GREAT:
            setting = setting_of(part, height)
            check_too_great(self, 300, report_of, setting, (0, 1))
            check_refused(self, (1, 1), report_of, setting, (1, 1))
            for function in (need_report, report_text):
                check_too_great(self, 300, function, (setting, (0, 1), None, None, None))
                check_too_great(self, 300, function, (setting, (0, 1), (1, 1), 1, 0))
                check_refused(self, (1, 1), function, (setting, (1, 1), (1, 1), 1, 0))
            text = setting_text(setting).replace("setting", "report") + " 0 1 1 0"
            check_too_great(self, 300, read_report, text)

    def test_no_texts(self):
        for kind in KINDS:
            for wrong in [None, True, 0, b"", b"setting 10 3/2 1/2 0", [], ["setting"], ("setting",), {}, object(), Odd(), str]:
                check_error(self, BadText, (0, 0), kind[2], wrong)
                check_error(self, BadText, (0, 0), kind[2], text=wrong)


class Reports(unittest.TestCase):
    def test_examples(self):
        check(self, report_of(SECOND, (0, 1)), REPORT)
        check(self, report_of(start=(0, 1), setting=SECOND), REPORT)
        self.assertIs(need_report(REPORT), REPORT)
        self.assertIs(need_report(report=REPORT), REPORT)

    def test_by_their_words(self):
        self.assertGreater(len(REPORTS), 25)
        for report in REPORTS:
            setting, start, mean, ticks, phase = report
            check(self, mean, mean_of_setting(setting))
            check(self, ticks, first_ticks(setting, start)[0])
            check(self, ticks, ticks_of_cut(setting, start, 0))
            check(self, phase, start_phase(setting, start)[2])
            check(self, need_report(report), report)


class Written(unittest.TestCase):
    def test_examples(self):
        check(self, setting_text(SECOND), "setting 10 3/2 1/2 0")
        check(self, setting_text(setting=FIRST), "setting 10 1 1/2 0")
        check(self, report_text(REPORT), "report 10 3/2 1/2 0\n0 7/2 7 0")
        check(self, report_text(report=REPORT), "report 10 3/2 1/2 0\n0 7/2 7 0")
        check(self, rounds_text((3, 4)), "rounds ( 3 4 )")
        check(self, rounds_text(rounds=()), "rounds ( )")
        check(self, rounds_text((MOST,)), "rounds ( 1" + 30 * "0" + " )")
        check(self, setting_text(((-7, 3), (1, 2), (2, 3), (-10, 1))), "setting -7/3 1/2 2/3 -10")

    def test_plainly(self):
        def plain(pair):
            return str(pair[0]) if pair[1] == 1 else "%d/%d" % pair

        for setting in SETTINGS:
            check(self, setting_text(setting), "setting " + " ".join(map(plain, setting)))
        for setting, start, mean, ticks, phase in REPORTS:
            rows = ["report " + " ".join(map(plain, setting)), "%s %s %d %d" % (plain(start), plain(mean), ticks, phase)]
            check(self, report_text((setting, start, mean, ticks, phase)), "\n".join(rows))
        for rounds in ROUNDS:
            check(self, rounds_text(rounds), " ".join(["rounds ("] + ["%d" % one for one in rounds] + [")"]))


class Read(unittest.TestCase):
    def test_as_it_was_written(self):
        for _, _, read, written, things in KINDS:
            for thing in things:
                check(self, read(written(thing)), thing)
                check(self, read(text=written(thing)), thing)

    def test_with_other_blanks_and_line_feeds(self):
        chance = random.Random(5)
        for _, _, read, written, things in KINDS:
            for thing in things:
                words = written(thing).split()
                for _ in range(3):
                    gaps = ["".join(chance.choice(" \n") for _ in range(chance.randint(1, 3))) for _ in words]
                    text = chance.choice(["", " ", "\n \n"]) + "".join(map("".join, zip(words, gaps)))
                    check(self, read(text), thing)
                    check(self, read(text.strip(" \n")), thing)
                check(self, read("\n".join(words)), thing)
                check(self, read("\n\n   \n" + "   ".join(words) + "\n\n"), thing)

    def check_text(self, kind, text):
        """Fails unless just the first wrong word is told, or none is."""
        head, wanted, read, _, _ = kind
        place = plain_place(text, head, wanted)
        if place is not None:
            check_error(self, BadText, place, read, text)
        else:
            try:
                read(text)
            except (BadSetting, BadRounds, BadParameter):
                pass
        return place

    def test_changed_texts(self):
        chance = random.Random(11)
        seen = {None: 0}
        for kind in KINDS:
            things = [thing for thing in kind[4] if len(kind[3](thing)) < 400]
            for thing in things[:12]:
                words = kind[3](thing).split(" ")
                for word in WORDS:
                    for at in range(min(len(words) + 1, 12)):
                        gap = chance.choice([" ", "\n", "  ", " \n \n"])
                        for changed in (words[:at] + [word] + words[at:], words[:at] + [word] + words[at + 1:]):
                            place = self.check_text(kind, gap.join(changed))
                            seen[place] = seen.get(place, 0) + 1
        self.assertGreater(len(seen), 30)
        self.assertGreater(seen[None], 100)

    def test_left_out_and_cut_off(self):
        for kind in KINDS:
            for thing in [thing for thing in kind[4] if len(kind[3](thing)) < 300]:
                text = kind[3](thing)
                words = text.split(" ")
                for at in range(len(words)):
                    self.check_text(kind, " ".join(words[:at] + words[at + 1:]))
                for at in range(len(text) + 1):
                    self.check_text(kind, text[:at])
                    self.check_text(kind, text[:at] + "\n")
                    self.check_text(kind, text[:at] + "\n \n ")
                    self.check_text(kind, text[:at] + " " + text[at:])
                    self.check_text(kind, text[:at] + "\t" + text[at:])
                self.check_text(kind, text + text)
                self.check_text(kind, text + " " + text)
                self.check_text(kind, text + "\n" + words[0])

    def test_places(self):
        for text, place in [
            ("", (0, 0)), (" ", (0, 0)), ("\n", (1, 0)), ("\n\n ", (2, 0)), ("settin", (0, 0)), ("\n  settin", (1, 0)),
            ("setting", (0, 1)), ("setting\n", (1, 0)), ("setting 10", (0, 2)), ("setting 10\n3/2", (1, 1)),
            ("setting 10\n3/2\n", (2, 0)), ("setting 10 3/2 1/2 0 0", (0, 5)), ("setting 10 3/2 1/2 0\n0", (1, 0)),
            ("setting 10 3/2 1/2 x", (0, 4)), ("setting 10 3/1 1/2 0", (0, 2)), ("setting 10 3/2 1/2 -0", (0, 4)),
            ("setting 10 x y z", (0, 2)), ("setting  10  x", (0, 2)), ("setting 10\n\n 3/2  x", (2, 1)),
            ("report 10 3/2 1/2 0\n0 7/2 7 0", (0, 0)), ("rounds ( )", (0, 0)), ("setting\t10 3/2 1/2 0", (0, 0)),
            ("setting 10\r\n3/2 1/2 0", (0, 1)), ("setting 10 3 / 2", (0, 3)), ("setting - 10", (0, 1)),
            ("setting 10 3/2 1/2 0 setting", (0, 5)), ("setting( 10 3/2 1/2 0", (0, 0)),
        ]:
            check_error(self, BadText, place, read_setting, text)
        for text, place in [
            ("", (0, 0)), ("rounds", (0, 1)), ("rounds (", (0, 2)), ("rounds ( 3", (0, 3)), ("rounds\n(\n3\n", (3, 0)),
            ("rounds 3", (0, 1)), ("rounds )", (0, 1)), ("rounds ( ) )", (0, 3)), ("rounds ( ) 3", (0, 3)),
            ("rounds ( (", (0, 2)), ("rounds ( 3 -4 )", (0, 3)), ("rounds ( 3 4/3 )", (0, 3)), ("rounds ( 03 )", (0, 2)),
            ("rounds ( 3 4) )", (0, 3)), ("rounds (3 4 )", (0, 1)), ("rounds ( 3 rounds", (0, 3)), ("round ( )", (0, 0)),
            ("rounds ( )\n\n  x", (2, 0)), ("rounds ( N .. )", (0, 2)),
        ]:
            check_error(self, BadText, place, read_rounds, text)
        for text, place in [
            ("report", (0, 1)), ("report 10 3/2 1/2 0", (0, 5)), ("report 10 3/2 1/2 0\n", (1, 0)),
            ("report 10 3/2 1/2 0\n0 7/2 7", (1, 3)), ("report 10 3/2 1/2 0\n0 7/2 7/2 0", (1, 2)),
            ("report 10 3/2 1/2 0\n0 7/2 7 -1", (1, 3)), ("report 10 3/2 1/2 0\n0 7/2 7 0 0", (1, 4)),
            ("report 10 3/2 1/2 0\n0 7/2 -7 0", (1, 2)), ("report 10 3/2 1/2 0\n0 7/2 7 0\n\nx", (3, 0)),
            ("setting 10 3/2 1/2 0", (0, 0)), ("report 10 3/2 1/2 0\n-0 7/2 7 0", (1, 0)),
        ]:
            check_error(self, BadText, place, read_report, text)

    def test_words_that_tell_nothing_that_is_let(self):
        for text, place in [
            ("setting 4/6 1 1/2 0", (0,)), ("setting 0/2 1 1/2 0", (0,)), ("setting 10 4/6 1/2 0", (1,)),
            ("setting 10 0 1/2 0", (1,)), ("setting 10 -1 1/2 0", (1,)), ("setting 10 1 2/4 0", (2,)),
            ("setting 10 1 1 0", (2,)), ("setting 10 1 3/2 0", (2,)), ("setting 10 1 1/1001 0", (2,)),
            ("setting 10 1 1/2 2/4", (3,)), ("setting 10 1 1/2 5", ()), ("setting 4/6 0 2/4 2/4", (0,)),
            ("setting 1" + 30 * "0" + "1 1 1/2 0", (0,)), ("setting " + "7" * 4000 + " 1 1/2 0", (0,)),
        ]:
            check_error(self, BadSetting, place, read_setting, text)
        check(self, read_setting("setting -1" + 30 * "0" + " 1 1/2 -1" + 30 * "0"), ((-MOST, 1), (1, 1), (1, 2), (-MOST, 1)))
        for text, place in [
            ("rounds ( 0 )", (0,)), ("rounds ( 3 0 4 )", (1,)), ("rounds ( 1" + 29 * "0" + "01 )", (0,)),
            ("rounds ( 3 " + "7" * 4000 + " )", (1,)), ("rounds (" + 301 * " 3" + " )", ()),
            ("rounds (" + 301 * " 0" + " )", ()), ("rounds (" + 300 * " 3" + "\n0 )", ()),
        ]:
            check_error(self, BadRounds, place, read_rounds, text)
        check(self, read_rounds("rounds (" + 300 * " 3" + " )"), (3,) * 300)
        check_error(self, BadSetting, (0,), read_report, "report 4/6 3/2 1/2 0 0 7/2 7 0")
        check_error(self, BadSetting, (), read_report, "report 10 3/2 1/2 5 0 7/2 7 0")

    def test_reports_that_are_none(self):
        for text, told in [
            ("report 10 3/2 1/2 0 11 7/2 7 0", (11, 1)), ("report 10 3/2 1/2 0 2/4 7/2 7 0", (2, 4)),
            ("report 10 3/2 1/2 0 0 7/2 8 0", (SECOND, (0, 1), (7, 2), 8, 0)),
            ("report 10 3/2 1/2 0 0 7/2 7 1", (SECOND, (0, 1), (7, 2), 7, 1)),
            ("report 10 3/2 1/2 0 0 14/4 7 0", (SECOND, (0, 1), (14, 4), 7, 0)),
            ("report 10 3/2 1/2 0 0 -7/2 7 0", (SECOND, (0, 1), (-7, 2), 7, 0)),
            ("report 10 3/2 1/2 0 0 4 7 0", (SECOND, (0, 1), (4, 1), 7, 0)),
            ("report 10 3/2 1/2 0 1/2 7/2 7 1", (SECOND, (1, 2), (7, 2), 7, 1)),
        ]:
            with self.assertRaises(BadParameter) as held:
                read_report(text)
            check(self, held.exception.value, told)

    def test_numbers_up_to_4000_figures(self):
        for word in ["7" * 4000, "-" + "7" * 4000, "7" * 4000 + "/" + "9" * 4000, "-" + "7" * 4000 + "/" + "9" * 4000]:
            check_error(self, BadSetting, (0,), read_setting, "setting " + word + " 1 1/2 0")
            check_error(self, BadSetting, (3,), read_setting, "setting 10 1 1/2 " + word)
        for word in ["7" * 4001, "-" + "7" * 4001, "7" * 4001 + "/2", "7/" + "9" * 4001, "7" * 100000]:
            check_error(self, BadText, (0, 1), read_setting, "setting " + word + " 1 1/2 0")
            check_error(self, BadText, (0, 2), read_rounds, "rounds ( " + word + " )")

    def test_long_texts(self):
        check(self, read_setting("setting" + " \n" * 50000 + "10 3/2 1/2 0" + "\n" * 1000), SECOND)
        check_error(self, BadRounds, (), read_rounds, "rounds ( " + "3 " * 50000 + ")")
        check_error(self, BadText, (0, 50002), read_rounds, "rounds ( " + "3 " * 50000)
        check_error(self, BadText, (50000, 0), read_rounds, "rounds (" + "\n3" * 50000 + "x")


if __name__ == "__main__":
    unittest.main()
