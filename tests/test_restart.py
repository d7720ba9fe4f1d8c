"""restart: the house goes on from what it has kept, and the clock begins anew."""

import unittest

from play import (AGAIN, CRASH, DELIVER, DROP, HOUSE, LOG, MACHINE, NET, NUDGE, OPENING, PRESS, RESTART, ROUNDS, SET,
                  TICK, Play, last_reply, replies)

GOOD_SET = (SET, 5000, 6000, 10, 20)


class WhileTheClockRuns(unittest.TestCase):
    def paid(self, had):
        """What side 0, with a bank of 100 and a lag of 30, has had; gives back the whole house."""
        given = replies((SET, 100, 700, 5, 30), *OPENING, (TICK, had), (RESTART,), (HOUSE,))
        self.assertEqual(given[-3:-1], [[0, had, 0], [0]])
        return given[-1]

    def test_less_than_its_bank(self):
        self.assertEqual(self.paid(60), [0, 60, 0, 0, 0, 0, 0, 1, 0, 0, 0, 40, 60, 1, 0, 0, 0, 700, 0])
        self.assertEqual(self.paid(99), [0, 99, 0, 0, 0, 0, 0, 1, 0, 0, 0, 1, 99, 1, 0, 0, 0, 700, 0])

    def test_nothing(self):
        self.assertEqual(self.paid(0), [0, 0, 0, 0, 0, 0, 0, 1, 0, 0, 0, 100, 0, 1, 0, 0, 0, 700, 0])

    def test_the_same_as_its_bank(self):
        self.assertEqual(self.paid(100), [0, 100, 0, 0, 0, 0, 0, 1, 0, 0, 0, 0, 100, 1, 0, 0, 0, 700, 0])

    def test_more_than_its_bank(self):
        for had in (101, 129):
            self.assertEqual(self.paid(had), [0, had, 0, 0, 0, 0, 0, 1, 0, 0, 0, 0, 100, 1, 0, 0, 0, 700, 0])

    def test_side_1_is_to_move(self):
        given = last_reply(GOOD_SET, *OPENING, (TICK, 40), (PRESS, 0, 1), (DELIVER, 7), (TICK, 250), (RESTART,),
                           (HOUSE,))
        self.assertEqual(given, [0, 290, 0, 0, 0, 1, 0, 1, 1, 0, 0, 4970, 40, 1, 0, 0, 0, 5750, 250])

    def test_side_1_has_had_more_than_its_bank(self):
        given = last_reply((SET, 700, 100, 0, 30), *OPENING, (PRESS, 0, 1), (DELIVER, 7), (TICK, 120), (RESTART,),
                           (HOUSE,))
        self.assertEqual(given, [0, 120, 0, 0, 0, 1, 0, 1, 1, 0, 0, 700, 0, 1, 0, 0, 0, 0, 100])

    def test_what_is_spent_before_is_not_forgotten(self):
        play = Play(5000, 6000, 10, 20)
        play.ask(TICK, 40)
        play.make_moves(1, 2)
        play.ask(TICK, 60)
        play.ask(RESTART)
        self.assertEqual(play.ask(HOUSE)[11:13], [4910, 100])

    def test_twice(self):
        given = replies(GOOD_SET, *OPENING, (TICK, 40), (RESTART,), (HOUSE,), (RESTART,), (HOUSE,))
        self.assertEqual(given[-2:], [[0], given[-3]])

    def test_twice_with_time_between(self):
        given = replies(GOOD_SET, *OPENING, (TICK, 40), (RESTART,), (TICK, 70), (RESTART,), (HOUSE,))
        self.assertEqual(given[-1], [0, 110, 0, 0, 0, 0, 0, 1, 0, 0, 0, 4960, 40, 1, 0, 0, 0, 6000, 0])

    def test_time_behind_it_is_nobody_s(self):
        given = replies(GOOD_SET, *OPENING, (TICK, 40), (RESTART,), (TICK, 1000000), (HOUSE,))
        self.assertEqual(given[-2], [0, 1000040, 0])
        self.assertEqual(given[-1][2:5] + given[-1][11:13], [0, 0, 0, 4960, 40])


class WhileItDoesNotRun(unittest.TestCase):
    def test_a_new_table(self):
        given = replies(GOOD_SET, (TICK, 50), (HOUSE,), (RESTART,), (HOUSE,))
        self.assertEqual(given[3:], [[0], given[2]])

    def test_one_side_is_here(self):
        for side in (0, 1):
            given = replies(GOOD_SET, (AGAIN, side), (DELIVER, 1), (TICK, 50), (HOUSE,), (RESTART,), (HOUSE,))
            before = given[4]
            self.assertEqual(before[10 + 6 * side], 1)
            before[10 + 6 * side] = 0
            self.assertEqual(given[6], before)

    def test_a_side_that_was_here_has_to_be_heard_of_again(self):
        # Side 0 was here before, side 1 is behind it: both together aren't.
        given = replies(GOOD_SET, (AGAIN, 0), (DELIVER, 1), (RESTART,), (AGAIN, 1), (DELIVER, 3), (HOUSE,))
        self.assertEqual(given[-1], [0, 0, 0, 0, 0, 0, 0, 1, 0, 0, 0, 5000, 0, 1, 0, 0, 1, 6000, 0])

    def test_a_result_is_there(self):
        given = replies(GOOD_SET, *OPENING, (TICK, 5020), (TICK, 30), (RESTART,), (HOUSE,), (ROUNDS, 2), (HOUSE,))
        self.assertEqual(given[-3], [0, 5050, 2, 0, 0, 0, 0, 1, 0, 0, 0, 0, 5000, 1, 0, 0, 0, 6000, 0])
        # Heard of again, they don't make a clock run that a result has stopped.
        self.assertEqual(given[-1], [0, 5050, 2, 0, 0, 0, 0, 1, 0, 0, 1, 0, 5000, 1, 0, 0, 1, 6000, 0])

    def test_behind_the_sixtieth_move(self):
        play = Play(5000, 6000, 10, 20)
        play.make_moves(*range(60))
        play.ask(TICK, 100)
        play.ask(RESTART)
        self.assertEqual(play.ask(HOUSE), [0, 100, 3, 0, 0, 60, 0, 1, 30, 60, 0, 5300, 0, 1, 30, 60, 0, 6300, 0])


class WhatStays(unittest.TestCase):
    def test_all_that_is_not_the_clock_s(self):
        play = Play(5000, 6000, 10, 20)
        play.ask(TICK, 40)
        play.make_moves(1, 2, 3)
        play.ask(CRASH, 1)
        play.ask(AGAIN, 1)
        play.ask(DELIVER, play.numbers()[0])
        play.ask(DELIVER, play.numbers()[0])
        play.ask(TICK, 70)
        play.ask(PRESS, 1, 4)
        play.ask(NUDGE)
        play.fill_net()
        play.ask(AGAIN, 1)
        shows = ((NET,), (LOG,), (MACHINE, 0), (MACHINE, 1))
        before = [play.ask(*call) for call in shows]
        self.assertEqual(play.ask(HOUSE), [0, 110, 0, 1, 70, 3, 1, 1, 2, 3, 1, 4980, 40, 2, 0, 0, 1, 6010, 0])
        self.assertEqual(play.ask(RESTART), [0])
        self.assertEqual([play.ask(*call) for call in shows], before)
        self.assertEqual(play.ask(HOUSE), [0, 110, 0, 0, 0, 3, 1, 1, 2, 3, 0, 4980, 40, 2, 0, 0, 0, 5940, 70])

    def test_increment_and_lag(self):
        given = replies(GOOD_SET, *OPENING, (RESTART,), (ROUNDS, 1), (PRESS, 0, 1), (TICK, 50), (ROUNDS, 1), (HOUSE,))
        # Of the 50 on the way the lag forgives 20; 30 are spent and 10 put to the bank.
        self.assertEqual(given[-1][11:13], [4980, 30])


class HeardOfAgain(unittest.TestCase):
    def test_the_clock_runs_anew_once_both_are(self):
        for first in (0, 1):
            given = replies(GOOD_SET, *OPENING, (TICK, 40), (RESTART,), (TICK, 5), (AGAIN, first), (DELIVER, 7),
                            (HOUSE,), (TICK, 6), (AGAIN, 1 - first), (DELIVER, 8), (HOUSE,), (TICK, 7), (HOUSE,))
            here = [1 - first, first]
            self.assertEqual(given[14], [0, 45, 0, 0, 0, 0, 0, 1, 0, 0, here[0], 4960, 40, 1, 0, 0, here[1], 6000, 0])
            self.assertEqual(given[18], [0, 51, 0, 1, 0, 0, 0, 1, 0, 0, 1, 4960, 40, 1, 0, 0, 1, 6000, 0])
            self.assertEqual(given[20], [0, 58, 0, 1, 7, 0, 0, 1, 0, 0, 1, 4960, 40, 1, 0, 0, 1, 6000, 0])

    def test_it_tells_nobody_before(self):
        given = replies(GOOD_SET, *OPENING, (RESTART,), (NUDGE,), (NET,), (AGAIN, 1), (DELIVER, 7), (NUDGE,), (NET,))
        self.assertEqual(given[11], [0])
        self.assertEqual(given[15], [0, 8, 3, 1, 1, 0, 0, 0, 5000, 6000, 0])

    def test_a_request_of_the_one_side_that_is_here_comes_to_nothing(self):
        given = replies(GOOD_SET, *OPENING, (PRESS, 0, 5), (RESTART,), (DELIVER, 7), (HOUSE,), (LOG,), (NET,))
        # It is handled, and only the side that is here is told.
        self.assertEqual(given[12], [0, 0, 0, 0, 0, 0, 0, 1, 1, 0, 1, 5000, 0, 1, 0, 0, 0, 6000, 0])
        self.assertEqual(given[13:], [[0], [0, 8, 3, 0, 1, 0, 0, 1, 5000, 6000, 0]])

    def test_a_request_by_which_both_are_here_is_looked_at(self):
        given = replies(GOOD_SET, *OPENING, (TICK, 40), (PRESS, 0, 5), (TICK, 60), (RESTART,), (AGAIN, 1), (DELIVER, 8),
                        (DELIVER, 7), (HOUSE,), (LOG,))
        # The 100 till the restart are paid; since the clock runs anew side 0 has had 0, so the move costs 0.
        self.assertEqual(given[16], [0, 100, 0, 1, 0, 1, 0, 1, 1, 0, 1, 4910, 100, 1, 0, 0, 1, 6000, 0])
        self.assertEqual(given[17], [0, 5])

    def test_news_of_before_still_arrives(self):
        given = replies(GOOD_SET, *OPENING, (PRESS, 0, 5), (DELIVER, 7), (RESTART,), (DELIVER, 9), (MACHINE, 1),
                        (DELIVER, 10), (HOUSE,))
        self.assertEqual(given[13], [0, 1, 1, 1, 0, 0, 5010, 6000, 0, 5])
        self.assertEqual(given[15][13:17], [1, 0, 1, 1])

    def test_a_machine_may_press_all_the_while(self):
        given = replies(GOOD_SET, *OPENING, (TICK, 40), (RESTART,), (TICK, 30), (PRESS, 0, 5), (ROUNDS, 1), (LOG,),
                        (ROUNDS, 1), (LOG,), (PRESS, 0, 5))
        # The request comes while side 1 isn't here: nothing comes of it, and the player has to press again.
        self.assertEqual(given[12], [0, 1, 70])
        self.assertEqual([given[14], given[16], given[17]], [[0], [0], [0, 2, 70]])


class AnEmptyBank(unittest.TestCase):
    def start(self):
        """Side 0's bank is 0 by a restart; the clock runs anew since 120."""
        return ((SET, 100, 700, 5, 30), *OPENING, (TICK, 120), (RESTART,), (AGAIN, 0), (AGAIN, 1), (DELIVER, 7),
                (DELIVER, 8))

    def test_nobody_has_lost_by_it(self):
        given = last_reply(*self.start(), (HOUSE,))
        self.assertEqual(given, [0, 120, 0, 1, 0, 0, 0, 1, 0, 0, 1, 0, 100, 1, 0, 0, 1, 700, 0])

    def test_the_lag_alone_is_left(self):
        given = replies(*self.start(), (TICK, 0), (TICK, 29), (TICK, 1), (HOUSE,))
        self.assertEqual(given[-4:-1], [[0, 120, 0], [0, 149, 0], [0, 150, 2]])
        self.assertEqual(given[-1], [0, 150, 2, 0, 0, 0, 0, 1, 0, 0, 1, 0, 100, 1, 0, 0, 1, 700, 0])

    def test_any_move_is_too_late(self):
        given = replies(*self.start(), (PRESS, 0, 5), (DELIVER, 9), (HOUSE,), (LOG,))
        self.assertEqual(given[-2], [0, 120, 2, 0, 0, 0, 0, 1, 1, 0, 1, 0, 100, 1, 0, 0, 1, 700, 0])
        self.assertEqual(given[-1], [0])

    def test_a_second_restart_takes_nothing_from_it(self):
        given = replies(*self.start(), (TICK, 29), (RESTART,), (HOUSE,))
        self.assertEqual(given[-1], [0, 149, 0, 0, 0, 0, 0, 1, 0, 0, 0, 0, 100, 1, 0, 0, 0, 700, 0])

    def test_news_of_it(self):
        given = replies(*self.start(), (NUDGE,), (DROP, 10), (NET,))
        self.assertEqual(given[-1], [0, 9, 3, 0, 1, 0, 0, 0, 0, 700, 0])


if __name__ == "__main__":
    unittest.main()
