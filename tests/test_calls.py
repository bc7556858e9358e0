"""The interface: one list of calls, one list of answers."""

import contextlib
import io
import unittest

from smokestairs.house import answers
from smokestairs.reading import read_calls
from tests.helper import (FREE, HOUSE, NOW, PRINTED, arrive, build, bytes_of, check, close, last, latest, part, plan,
                          proof, reopen, run, smoke, stick, survives, weak)

# Each call's numbers and rows differ, so that none can stand for another.
ALL_FIFTEEN = [
    (0, [], [list(b"room a\n")]),
    (1, [], []),
    (2, [11], []),
    (3, [12], []),
    (4, [13], []),
    (5, [], []),
    (6, [], []),
    (7, [14], []),
    (8, [], [[1, 2, 3]]),
    (9, [15], []),
    (10, [16], []),
    (11, [17], [[4, 5], [6, 7, 8, 9]]),
    (12, [], [[5, 0, 0], [1]]),
    (13, [18], [[6, 6]]),
    (14, [19], [[7]]),
]

# What the calls from 8 on answer of this house.
KEPT = "fire a\nroom b\nstair s\nway w a b 5 1\nway v b s 7 2\n"
ASKED = [
    (weak([1]), [0, 1, 1, 1, 2]),
    (plan(2), [0, 12, 1, 2]),
    (proof(2), [0, 7, 2, 7, 7]),
    (check(2, [1, 2], [7, 7]), [0, 1, 12]),
    (survives([1, 2], [2]), [0, 1]),
    (arrive(3, [1000000, 1]), [0, 3, 2, 0]),
    (latest(1, [2]), [0, 1]),
]
REFUSED = [
    (weak([2, 1]), [-2]),
    (plan(0), [-2]),
    (plan(3), [-5]),
    (proof(6), [-2]),
    (proof(3), [-5]),
    (check(1, [1], [5]), [-2]),
    (survives([1], [3]), [-2]),
    (arrive(4, []), [-1]),
    (arrive(1, []), [-2]),
    (latest(0, [2, 1]), [-1]),
    (latest(1, [2, 1]), [-2]),
    (latest(1, []), [-6]),
]


def flat(call):
    numbers = [call[0]] + call[1]
    for row in call[2]:
        numbers = numbers + [len(row)] + row
    return numbers


class Kept(list):
    """A list that refuses to be changed."""

    def refuse(self, *args, **kwargs):
        raise AssertionError("the list that is handed in is changed")

    append = extend = insert = pop = remove = clear = sort = reverse = refuse
    __setitem__ = __delitem__ = __iadd__ = __imul__ = refuse


def with_empty_rows(call):
    return (call[0], call[1], [[] for row in call[2]])


class AnswersTest(unittest.TestCase):
    def test_each_answer_has_its_count_before_it(self):
        self.assertEqual(answers([1]), [1, 0])
        self.assertEqual(answers([0, 0]), [5, 0, 0, 0, 0, 0])
        self.assertEqual(answers([2, 1]), [1, -1])
        self.assertEqual(answers([6, 5, 3, -1000000000]), [3, 0, 0, 0, 1, 0, 1, -1])
        self.assertEqual(answers([0, 2, 120, 10]), [3, 1, 1, 1])
        text = list(b"room a\n")
        self.assertEqual(answers([0, 7] + text + [1, 7, 1]), [5, 0, 1, 0, 0, 0, 8, 0] + text + [2, 0, 1])

    def test_answers_are_whole_numbers_in_a_list(self):
        given = answers(build(HOUSE) + close(1) + close(2) + stick(1) + NOW + smoke(1) + PRINTED + build("x\n"))
        self.assertIs(type(given), list)
        self.assertEqual({type(number) for number in given}, {int})

    def test_any_call_may_be_first(self):
        firsts = [(PRINTED, [0]), (close(1), [-1]), (reopen(1), [-1]), (stick(1), [-1]), (FREE, [0]),
                  (NOW, [0, 0, 0]), (smoke(1), [-1]), (build("fire a\n"), [0, 1, 0, 1, 0])]
        for call, answer in firsts:
            self.assertEqual(run(call, build(HOUSE)), [answer, [0, 6, 5, 2, 2]])

    def test_refusals_change_nothing(self):
        before = [build(HOUSE), close(1), close(4), stick(4), stick(2)]
        refused = [close(0), close(6), close(2), close(4), reopen(-1), reopen(4), reopen(2), stick(6), stick(0),
                   smoke(0), smoke(7)]
        given = run(*before, NOW, PRINTED, smoke(1), *refused, NOW, PRINTED, smoke(1))
        self.assertEqual(given[8:-3], [[-1], [-1], [-3], [-4], [-1], [-4], [-4], [-1], [-1], [-1], [-1]])
        self.assertEqual(given[5:8], given[-3:])
        self.assertEqual(given[5], [0, 2, 1, 4, 2, 2, 4])

    def test_what_is_handed_in_stays_the_same(self):
        calls = build(HOUSE) + close(1) + stick(1) + NOW + PRINTED + build("x") + build("fire a\n") + smoke(1) + FREE
        before = list(calls)
        answers(calls)
        self.assertEqual(calls, before)

    def test_nothing_is_kept_from_one_time_to_the_next(self):
        calls = build(HOUSE) + close(1) + stick(3) + NOW + smoke(1) + PRINTED
        first = answers(calls)
        self.assertEqual(answers(calls), first)
        self.assertEqual(run(PRINTED, NOW, smoke(1), close(1)), [[0], [0, 0, 0], [-1], [-1]])
        self.assertEqual(answers(calls), first)

    def test_an_answer_is_new_each_time(self):
        first = answers(build(HOUSE) + PRINTED)
        second = answers(build(HOUSE) + PRINTED)
        first.clear()
        self.assertEqual(part(second)[1], bytes_of(HOUSE))

    def test_nothing_is_printed(self):
        out, err = io.StringIO(), io.StringIO()
        with contextlib.redirect_stdout(out), contextlib.redirect_stderr(err):
            answers(build(HOUSE) + PRINTED + close(1) + stick(9) + NOW + smoke(1) + build("x"))
        self.assertEqual(out.getvalue() + err.getvalue(), "")

    def test_two_hundred_calls(self):
        calls = [build(HOUSE)]
        expected = [[0, 6, 5, 2, 2]]
        while len(calls) < 200:
            if len(calls) % 3 == 1:
                calls.append(close(1))
                expected.append([0])
            elif len(calls) % 3 == 2:
                calls.append(NOW)
                expected.append([0, 1, 1, 0])
            else:
                calls.append(smoke(6))
                expected.append([0, 6])
        self.assertEqual(run(*calls), expected)

    def test_a_list_as_long_as_may_be(self):
        # 8 texts of nearly 4000 bytes, all lines but the last one wrong, fill the 32000 numbers.
        text = "\n" * 3900
        calls = [build(text)] * 7 + [build(text[:-1] + "x")] + [NOW] * 192
        given = run(*calls)
        self.assertEqual(given[:7], [[1, 1, 1]] * 7)
        self.assertEqual(given[7], [1, 3900, 1])
        self.assertEqual(given[8:], [[0, 0, 0]] * 192)

    def test_a_text_of_4000_bytes(self):
        self.assertEqual(last(build("a" * 3999 + "\n")), [1, 1, 1])
        self.assertEqual(last(build("room a\n" + "b" * 3993)), [1, 2, 1])
        self.assertEqual(last(build("room " + "a" * 3994 + "\n")), [1, 1, 1])

    def test_numbers_of_a_text_are_not_taken_for_calls(self):
        # The bytes 0 to 7 are calls' numbers, but stand within a text.
        given = run(build([1, 2, 3, 4, 5, 6, 7, 0]), build([5, 10, 6, 10]), NOW)
        self.assertEqual(given, [[1, 1, 1], [1, 1, 1], [0, 0, 0]])


class AskingTest(unittest.TestCase):
    def test_each_answer_has_its_count_before_it(self):
        self.assertEqual(answers([8, 1, 1, 6]), [1, -2, 3, 0, 0, 0])
        self.assertEqual(answers([8, 0, 9, 1, 10, 5, 6]), [2, 0, 0, 2, 0, 0, 3, 0, 0, 0, 3, 0, 0, 0])
        for call, answer in ASKED + REFUSED:
            self.assertEqual(answers(build(KEPT) + call), [5, 0, 3, 2, 1, 1, len(answer)] + answer)

    def test_any_call_may_be_first(self):
        firsts = [(weak([]), [0, 0]), (plan(5), [0, 0]), (proof(5), [0, 0, 0]), (check(5, [], []), [0, 1, 0]),
                  (survives([], []), [0, 1]), (arrive(1, []), [-1]), (latest(1, []), [-1])]
        for call, answer in firsts:
            self.assertEqual(run(call, build(KEPT)), [answer, [0, 3, 2, 1, 1]])

    def test_what_is_closed_or_stuck_does_not_matter(self):
        for moved in ([close(1)], [close(1), close(2)], [stick(1), stick(2)], [close(2), stick(2), stick(1)]):
            for call, answer in ASKED + REFUSED:
                self.assertEqual(last(build(KEPT), *moved, call), answer)

    def test_asking_changes_nothing(self):
        before = [build(KEPT), close(2), stick(1)]
        told = [NOW, PRINTED, smoke(1), smoke(3), close(1), reopen(1)]
        plain = run(*before, *told)
        for call, answer in ASKED + REFUSED:
            given = run(*before, call, *told)
            self.assertEqual(given[:3] + given[4:], plain)
            self.assertEqual(given[3], answer)

    def test_the_house_that_is_built_last_is_asked(self):
        other = "fire a\nstair s\nway w a s 4 9\n"
        given = run(build(KEPT), plan(1), build(other), plan(1), build("x\n"), plan(1), build(""), plan(1), build(KEPT),
                    plan(1))
        self.assertEqual(given[1::2], [[0, 5, 1], [0, 4, 1], [0, 4, 1], [0, 0], [0, 5, 1]])

    def test_two_hundred_calls_with_twenty_plans_and_proofs(self):
        asked = [(call, answer) for call, answer in ASKED + REFUSED if call[0] not in (9, 10)]
        calls = [build(KEPT)]
        expected = [[0, 3, 2, 1, 1]]
        for n in range(10):
            calls.extend([plan(n % 3), proof(n % 3)])
            expected.extend([[[-2], [-2]], [[0, 5, 1], [0, 5, 0, 5, 5]], [[0, 12, 1, 2], [0, 7, 2, 7, 7]]][n % 3])
            calls.extend([close(1), stick(1), NOW, FREE, smoke(1)])
            expected.extend([[0], [0], [0, 1, 1, 1, 1], [0], [0, 1]])
        while len(calls) < 200:
            call, answer = asked[len(calls) % len(asked)]
            calls.append(call)
            expected.append(answer)
        self.assertEqual(run(*calls), expected)

    def test_what_is_handed_in_stays_the_same_and_nothing_is_kept(self):
        calls = build(KEPT) + close(1)
        for call, answer in ASKED + REFUSED:
            calls += call
        before = list(calls)
        first = answers(calls)
        self.assertEqual(calls, before)
        self.assertEqual(answers(calls), first)
        self.assertEqual(part(answers(plan(1))), [[0, 0]])
        self.assertEqual(answers(calls), first)
        self.assertEqual(part(first)[2:], [answer for call, answer in ASKED + REFUSED])

    def test_what_is_handed_in_is_not_changed_for_a_while_either(self):
        for call, answer in ASKED + REFUSED:
            self.assertEqual(part(answers(Kept(build(KEPT) + call)))[1], answer)

    def test_answers_are_whole_numbers(self):
        for call, answer in ASKED + REFUSED:
            given = answers(build(KEPT) + call)
            self.assertIs(type(given), list)
            self.assertEqual({type(number) for number in given}, {int})

    def test_no_answer_but_a_refusal_begins_below_0(self):
        for call, answer in ASKED:
            self.assertEqual(last(build(KEPT), call)[0], 0)
        for call, answer in REFUSED:
            self.assertEqual(len(last(build(KEPT), call)), 1)

    def test_nothing_is_printed(self):
        out, err = io.StringIO(), io.StringIO()
        with contextlib.redirect_stdout(out), contextlib.redirect_stderr(err):
            answers(sum([call for call, answer in ASKED + REFUSED], build(KEPT)))
        self.assertEqual(out.getvalue() + err.getvalue(), "")


class ReadingTest(unittest.TestCase):
    def found(self, calls):
        read = read_calls(sum([flat(call) for call in calls], []))
        return [(call.kind, call.numbers, call.rows) for call in read]

    def test_all_fifteen_calls_are_read(self):
        self.assertEqual(self.found(ALL_FIFTEEN), ALL_FIFTEEN)
        backwards = ALL_FIFTEEN[::-1]
        self.assertEqual(self.found(backwards), backwards)

    def test_each_call_by_itself_and_behind_each_other(self):
        for one in ALL_FIFTEEN:
            self.assertEqual(self.found([one]), [one])
            for other in ALL_FIFTEEN:
                self.assertEqual(self.found([one, other]), [one, other])

    def test_empty_rows(self):
        calls = [with_empty_rows(call) for call in ALL_FIFTEEN]
        self.assertEqual(self.found(calls), calls)

    def test_rows_of_forty_numbers(self):
        row = [1000000000, -1000000000] * 20
        calls = [(8, [], [row]), (11, [-5], [row, row]), (12, [], [row, []]), (13, [0], [row]), (14, [1], [row])]
        self.assertEqual(self.found(calls), calls)

    def test_calls_behind_one_that_has_rows_are_answered(self):
        for call in ALL_FIFTEEN[8:]:
            given = part(answers(build(HOUSE) + close(1) + flat(call) + NOW + smoke(6)))
            self.assertEqual(len(given), 5)
            self.assertEqual(given[3:], [[0, 1, 1, 0], [0, 6]], call)


if __name__ == "__main__":
    unittest.main()
