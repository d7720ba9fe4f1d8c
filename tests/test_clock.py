"""tick, what a move costs, and when the time is up."""

import unittest

from netduel.messages import Request
from play import DELIVER, OPENING, PRESS, SET, TICK, Play, replies


class Tick(unittest.TestCase):
    def test_time_goes_by(self):
        given = replies((SET, 100, 100, 0, 0), (TICK, 0), (TICK, 5), (TICK, 1000000000), (TICK, 1000000000))
        self.assertEqual(given[1:], [[0, 0, 0], [0, 5, 0], [0, 1000000005, 0], [0, 2000000005, 0]])

    def test_refused(self):
        given = replies((SET, 100, 100, 0, 0), (TICK, 5), (TICK, -1), (TICK, 1000000001), (TICK, 0))
        self.assertEqual(given[1:], [[0, 5, 0], [-1], [-1], [0, 5, 0]])

    def test_the_bank_and_the_lag_together(self):
        for bank, lag in ((100, 0), (100, 30), (1, 0), (1, 100000)):
            with self.subTest(bank=bank, lag=lag):
                start = ((SET, bank, 5000, 0, lag), *OPENING)
                self.assertEqual(replies(*start, (TICK, bank + lag))[-1], [0, bank + lag, 2])
                given = replies(*start, (TICK, bank + lag - 1), (TICK, 1))
                self.assertEqual(given[-2:], [[0, bank + lag - 1, 0], [0, bank + lag, 2]])

    def test_what_is_left_when_the_time_is_up(self):
        play = Play(100, 5000, 7, 30)
        play.ask(TICK, 400)
        self.assertEqual((play.seat(0).bank, play.seat(0).spent), (0, 100))
        self.assertEqual((play.seat(1).bank, play.seat(1).spent), (5000, 0))
        self.assertEqual((play.house.result, play.house.runs), (2, False))
        self.assertEqual(play.house.has_had(play.table.time), 0)

    def test_side_1_may_be_the_one_to_move(self):
        play = Play(5000, 100, 0, 30)
        play.ask(TICK, 20)
        play.make_moves(5)
        self.assertEqual(play.ask(TICK, 129), [0, 149, 0])
        self.assertEqual(play.ask(TICK, 1), [0, 150, 1])
        self.assertEqual((play.seat(1).bank, play.seat(1).spent), (0, 100))
        self.assertEqual((play.seat(0).bank, play.seat(0).spent), (4980, 20))

    def test_spent_before_is_not_forgotten(self):
        play = Play(100, 100)
        play.ask(TICK, 40)
        play.make_moves(5, 6)
        self.assertEqual(play.ask(TICK, 60), [0, 100, 2])
        self.assertEqual((play.seat(0).bank, play.seat(0).spent), (0, 100))

    def test_a_clock_that_does_not_run(self):
        for sides in ((), (0,), (1,)):
            play = Play(100, 100, opened=False)
            for side in sides:
                play.ask(3, side)
            play.settle()
            self.assertEqual(play.ask(TICK, 100000), [0, 100000, 0])
            self.assertEqual((play.seat(0).bank, play.seat(0).spent), (100, 0))

    def test_a_clock_that_does_not_run_with_an_empty_bank(self):
        # Nothing had is as much as bank and lag together, but nobody loses while the clock doesn't run.
        play = Play(100, 100, opened=False)
        play.seat(0).bank = 0
        self.assertEqual(play.ask(TICK, 10), [0, 10, 0])

    def test_a_result_stays(self):
        given = replies((SET, 100, 5000, 0, 0), *OPENING, (TICK, 100), (TICK, 0), (TICK, 100000))
        self.assertEqual(given[-3:], [[0, 100, 2], [0, 100, 2], [0, 100100, 2]])

    def test_a_result_that_is_there_while_the_clock_is_set_running_by_hand(self):
        play = Play(100, 100)
        play.house.result = 3
        self.assertEqual(play.ask(TICK, 1000), [0, 1000, 3])
        self.assertEqual(play.seat(0).bank, 100)

    def test_tick_0_looks_at_the_clock_too(self):
        play = Play(100, 100)
        play.ask(TICK, 50)
        play.house.seats[0].bank = 50
        self.assertEqual(play.ask(TICK, 0), [0, 50, 2])


class Cost(unittest.TestCase):
    def cost(self, thought, had, lag, increment=0):
        play = Play(10000, 10000, increment, lag)
        play.ask(TICK, had)
        play.arrive(Request(0, 1, 1, 0, 5, thought))
        self.assertEqual(play.house.log, [5])
        self.assertEqual(play.seat(0).bank, 10000 - play.seat(0).spent + increment)
        self.assertEqual((play.seat(1).bank, play.seat(1).spent), (10000, 0))
        self.assertEqual((play.house.runs, play.house.since), (True, had))
        return play.seat(0).spent

    def test_thought_less_than_had(self):
        self.assertEqual(self.cost(60, 100, 0), 100)
        self.assertEqual(self.cost(60, 100, 30), 70)
        self.assertEqual(self.cost(60, 100, 40), 60)
        self.assertEqual(self.cost(60, 100, 41), 60)
        self.assertEqual(self.cost(60, 100, 39), 61)
        self.assertEqual(self.cost(60, 100, 500), 60)

    def test_thought_as_long_as_had(self):
        for lag in (0, 30, 100, 500):
            self.assertEqual(self.cost(100, 100, lag), 100)

    def test_thought_more_than_had(self):
        for lag in (0, 30, 100, 500):
            self.assertEqual(self.cost(180, 100, lag), 100)

    def test_no_thought_at_all(self):
        self.assertEqual(self.cost(0, 100, 0), 100)
        self.assertEqual(self.cost(0, 100, 99), 1)
        self.assertEqual(self.cost(0, 100, 100), 0)
        self.assertEqual(self.cost(0, 100, 500), 0)
        self.assertEqual(self.cost(0, 0, 0), 0)
        self.assertEqual(self.cost(0, 0, 500), 0)

    def test_the_increment(self):
        for increment in (0, 1, 1000000):
            self.assertEqual(self.cost(100, 100, 30, increment), 100)

    def test_as_the_answers_show_it(self):
        # Side 0 thinks for 60, its request is on its way for 40, of which the lag forgives 30: it costs 70.
        # Its bank is 1000 - 70 + 5 then, and its time is up 30 after it.
        given = replies((SET, 1000, 1000, 5, 30), *OPENING, (TICK, 60), (PRESS, 0, 1), (TICK, 40), (DELIVER, 7),
                        (DELIVER, 8), (DELIVER, 9), (PRESS, 1, 2), (DELIVER, 12), (TICK, 964), (TICK, 1))
        self.assertEqual(given[10], [0, 1, 60])
        self.assertEqual(given[-2:], [[0, 1064, 0], [0, 1065, 2]])


class TimeIsUpByAMove(unittest.TestCase):
    def play(self, bank, had, thought, lag, increment=0):
        play = Play(bank, 700, increment, lag)
        play.table.time = had
        play.arrive(Request(0, 1, 1, 0, 5, thought))
        return play

    def test_the_bank_is_just_the_cost(self):
        play = self.play(100, 100, 100, 30)
        self.assertEqual((play.house.log, play.house.result, play.house.runs), ([], 2, False))
        self.assertEqual((play.seat(0).bank, play.seat(0).spent), (0, 100))
        self.assertEqual(play.messages(), [(3, 0, 1, 0, (), 1, 0, 700, 2), (3, 1, 1, 0, (), 0, 0, 700, 2)])

    def test_the_bank_is_1_above_it(self):
        play = self.play(101, 100, 100, 30)
        self.assertEqual((play.house.log, play.house.result, play.house.runs), ([5], 0, True))
        self.assertEqual((play.seat(0).bank, play.seat(0).spent), (1, 100))

    def test_the_bank_is_less(self):
        play = self.play(99, 100, 100, 30)
        self.assertEqual((play.house.log, play.house.result), ([], 2))
        self.assertEqual((play.seat(0).bank, play.seat(0).spent), (0, 99))

    def test_the_increment_does_not_save_it(self):
        play = self.play(100, 100, 100, 30, 1000)
        self.assertEqual((play.house.log, play.house.result), ([], 2))
        self.assertEqual((play.seat(0).bank, play.seat(0).spent), (0, 100))

    def test_the_lag_does(self):
        play = self.play(100, 120, 0, 30)
        self.assertEqual((play.house.log, play.house.result), ([5], 0))
        self.assertEqual((play.seat(0).bank, play.seat(0).spent), (10, 90))

    def test_side_1_loses_it(self):
        play = Play(1000, 100, 0, 30)
        play.ask(TICK, 10)
        play.make_moves(5)
        play.ask(TICK, 100)
        self.assertEqual(play.ask(PRESS, 1, 6), [0, 1, 100])
        play.settle()
        self.assertEqual((play.house.log, play.house.result), ([5], 1))
        self.assertEqual((play.seat(1).bank, play.seat(1).spent), (0, 100))
        self.assertEqual((play.seat(0).bank, play.seat(0).spent), (990, 10))

    def test_as_the_answers_show_it(self):
        start = ((SET, 100, 700, 0, 30), *OPENING)
        lost = replies(*start, (TICK, 100), (PRESS, 0, 5), (DELIVER, 7), (TICK, 0))
        self.assertEqual(lost[-4:], [[0, 100, 0], [0, 1, 100], [0], [0, 100, 2]])
        made = replies(*start, (TICK, 99), (PRESS, 0, 5), (DELIVER, 7), (TICK, 0))
        self.assertEqual(made[-4:], [[0, 99, 0], [0, 1, 99], [0], [0, 99, 0]])


if __name__ == "__main__":
    unittest.main()
