"""net, house, machine and log: what they show of a table, number by number."""

import unittest

from play import (AGAIN, CRASH, DELIVER, DOUBLE, DROP, HOUSE, LOG, MACHINE, NET, NUDGE, OPENING, PRESS, RESTART, ROUNDS,
                  SET, TICK, Play, last_reply, replies)

GOOD_SET = (SET, 5000, 6000, 10, 20)


class NothingIsChanged(unittest.TestCase):
    def test_by_being_shown(self):
        play = Play(5000, 6000, 10, 20)
        play.make_moves(1, 2, 3)
        play.ask(TICK, 40)
        play.ask(PRESS, 1, 4)
        play.ask(NUDGE)
        before = play.state()
        for call in ((NET,), (HOUSE,), (MACHINE, 0), (MACHINE, 1), (LOG,)):
            first = play.ask(*call)
            self.assertEqual(play.ask(*call), first)
            first.append(7)
            first[0] = 9
            self.assertEqual(play.state(), before)


class ShowNet(unittest.TestCase):
    def test_an_empty_one(self):
        self.assertEqual(replies(GOOD_SET, (NET,)), [[0], [0]])
        self.assertEqual(last_reply(GOOD_SET, *OPENING, (NET,)), [0])

    def test_hello(self):
        self.assertEqual(last_reply(GOOD_SET, (AGAIN, 1), (AGAIN, 0), (NET,)), [0, 1, 0, 1, 1, 2, 0, 0, 1])
        self.assertEqual(last_reply(GOOD_SET, (CRASH, 1), (CRASH, 1), (AGAIN, 1), (NET,)), [0, 1, 0, 1, 3])

    def test_request(self):
        given = last_reply(GOOD_SET, *OPENING, (TICK, 33), (PRESS, 0, 77), (NET,))
        self.assertEqual(given, [0, 7, 1, 0, 1, 1, 0, 77, 33])

    def test_request_of_side_1(self):
        play = Play(5000, 6000, 10, 20)
        play.make_moves(1, 2, 3)
        play.ask(TICK, 44)
        number = play.net.next_number
        play.ask(PRESS, 1, 999)
        self.assertEqual(play.ask(NET), [0, number, 1, 1, 1, 2, 3, 999, 44])

    def test_ack(self):
        play = Play(5000, 6000, 10, 20)
        play.make_moves(1, 2, 3)
        number = play.net.next_number
        play.ask(AGAIN, 1)
        play.ask(AGAIN, 0)
        self.assertEqual(play.ask(NET), [0, number, 2, 1, 1, 3, number + 1, 2, 0, 1, 3])

    def test_news_without_moves(self):
        given = last_reply(GOOD_SET, *OPENING, (NUDGE,), (NET,))
        self.assertEqual(given, [0, 7, 3, 0, 1, 0, 0, 0, 5000, 6000, 0, 8, 3, 1, 1, 0, 0, 0, 5000, 6000, 0])

    def test_news_with_1_to_4_moves(self):
        for many in range(1, 7):
            with self.subTest(many=many):
                play = Play(5000, 6000, 10, 20)
                play.make_moves(*range(100, 100 + many))
                banks = [5000 + 10 * ((many + 1) // 2), 6000 + 10 * (many // 2)]
                play.ask(CRASH, 0)
                number = play.net.next_number
                play.ask(AGAIN, 0)
                play.ask(DELIVER, number)
                moves = list(range(100, 100 + min(many, 4)))
                self.assertEqual(play.ask(NET),
                                 [0, number + 1, 3, 0, 2, 0, len(moves)] + moves + [0] + banks + [0])

    def test_news_from_a_later_place(self):
        play = Play(5000, 6000, 10, 20)
        play.make_moves(11, 12, 13, 14, 15, 16)
        number = play.net.next_number
        play.ask(CRASH, 0)
        play.ask(AGAIN, 0)
        play.ask(DELIVER, number)
        play.ask(DELIVER, number + 1)
        play.ask(DELIVER, number + 2)
        self.assertEqual(play.ask(NET), [0, number + 3, 3, 0, 2, 4, 2, 15, 16, 0, 5030, 6030, 0])

    def test_news_of_a_result(self):
        given = last_reply(GOOD_SET, *OPENING, (TICK, 5020), (NUDGE,), (DROP, 7), (NET,))
        self.assertEqual(given, [0, 8, 3, 1, 1, 0, 0, 0, 0, 6000, 2])

    def test_news_says_what_is_handled(self):
        given = last_reply(GOOD_SET, *OPENING, (TICK, 100), (PRESS, 0, 5), (DELIVER, 7), (NET,))
        self.assertEqual(given, [0, 8, 3, 0, 1, 0, 1, 5, 1, 4910, 6000, 0, 9, 3, 1, 1, 0, 1, 5, 0, 4910, 6000, 0])

    def test_news_on_its_way_stays_as_it_was_sent(self):
        play = Play(5000, 6000, 10, 20)
        play.ask(PRESS, 0, 5)
        play.ask(DELIVER, 7)
        before = play.ask(NET)
        play.ask(DOUBLE, 9)
        play.ask(DELIVER, 10)
        play.ask(DROP, 11)
        play.ask(TICK, 70)
        play.ask(PRESS, 1, 6)
        play.ask(DELIVER, 12)
        self.assertEqual(play.ask(LOG), [0, 5, 6])
        self.assertEqual(play.ask(NET)[:len(before)], before)

    def test_messages_doubled(self):
        given = last_reply(GOOD_SET, (AGAIN, 0), (AGAIN, 1), (DOUBLE, 1), (DOUBLE, 3), (NET,))
        self.assertEqual(given, [0, 1, 0, 0, 1, 2, 0, 1, 1, 3, 0, 0, 1, 4, 0, 0, 1])
        given = last_reply(GOOD_SET, *OPENING, (TICK, 3), (PRESS, 0, 5), (DOUBLE, 7), (NUDGE,), (DOUBLE, 10), (NET,))
        request, news = [1, 0, 1, 1, 0, 5, 3], [0, 0, 0, 5000, 6000, 0]
        self.assertEqual(given, [0, 7] + request + [8] + request + [9, 3, 0, 1] + news
                         + [10, 3, 1, 1] + news + [11, 3, 1, 1] + news)

    def test_the_order_behind_deliver_and_drop_of_one_in_the_middle(self):
        hellos = ((AGAIN, 0), (AGAIN, 1), (AGAIN, 0), (AGAIN, 1))
        self.assertEqual(last_reply(GOOD_SET, *hellos, (DROP, 2), (NET,)),
                         [0, 1, 0, 0, 1, 3, 0, 0, 1, 4, 0, 1, 1])
        self.assertEqual(last_reply(GOOD_SET, *hellos, (DELIVER, 2), (NET,)),
                         [0, 1, 0, 0, 1, 3, 0, 0, 1, 4, 0, 1, 1, 5, 3, 1, 1, 0, 0, 0, 5000, 6000, 0])
        self.assertEqual(last_reply(GOOD_SET, *hellos, (DELIVER, 3), (DROP, 1), (DROP, 4), (AGAIN, 1), (NET,)),
                         [0, 2, 0, 1, 1, 5, 3, 0, 1, 0, 0, 0, 5000, 6000, 0, 6, 0, 1, 1])

    def test_a_full_one(self):
        full = [0] + [number for at in range(1, 65) for number in (at, 0, 0, 1)]
        self.assertEqual(last_reply(GOOD_SET, *[(AGAIN, 0)] * 64, (NET,)), full)
        self.assertEqual(last_reply(GOOD_SET, *[(AGAIN, 0)] * 64, (AGAIN, 1), (NET,)), full)
        # The number of the one that was lost is used up.
        self.assertEqual(last_reply(GOOD_SET, *[(AGAIN, 0)] * 65, (DROP, 1), (AGAIN, 1), (NET,)),
                         [0] + full[5:] + [66, 0, 1, 1])


class ShowHouse(unittest.TestCase):
    def test_a_new_table(self):
        self.assertEqual(last_reply(GOOD_SET, (HOUSE,)),
                         [0, 0, 0, 0, 0, 0, 0, 0, 0, 0, 0, 5000, 0, 0, 0, 0, 0, 6000, 0])

    def test_the_clock_does_not_run(self):
        self.assertEqual(last_reply(GOOD_SET, (TICK, 70), (HOUSE,)),
                         [0, 70, 0, 0, 0, 0, 0, 0, 0, 0, 0, 5000, 0, 0, 0, 0, 0, 6000, 0])
        self.assertEqual(last_reply(GOOD_SET, (AGAIN, 1), (DELIVER, 1), (TICK, 70), (HOUSE,)),
                         [0, 70, 0, 0, 0, 0, 0, 0, 0, 0, 0, 5000, 0, 1, 0, 0, 1, 6000, 0])

    def test_the_clock_runs(self):
        self.assertEqual(last_reply(GOOD_SET, *OPENING, (HOUSE,)),
                         [0, 0, 0, 1, 0, 0, 0, 1, 0, 0, 1, 5000, 0, 1, 0, 0, 1, 6000, 0])
        # It runs since 70; the banks stand as they stood then.
        self.assertEqual(last_reply(GOOD_SET, (TICK, 70), *OPENING, (TICK, 25), (HOUSE,)),
                         [0, 95, 0, 1, 25, 0, 0, 1, 0, 0, 1, 5000, 0, 1, 0, 0, 1, 6000, 0])

    def test_each_number_in_its_place(self):
        # Three moves; the third is known to machine 0 and not acked yet, and side 1 hasn't heard of it.
        play = Play(5000, 6000, 10, 20)
        play.ask(TICK, 100)
        play.make_moves(1)
        play.ask(TICK, 200)
        play.make_moves(2)
        play.ask(TICK, 300)
        number = play.net.next_number
        play.ask(PRESS, 0, 3)
        play.ask(DELIVER, number)
        play.ask(DELIVER, number + 1)
        play.ask(TICK, 7)
        self.assertEqual(play.ask(HOUSE), [0, 607, 0, 1, 7, 3, 0, 1, 2, 2, 1, 4620, 400, 1, 1, 2, 1, 5810, 200])
        play.ask(CRASH, 1)
        play.ask(CRASH, 1)
        play.ask(AGAIN, 1)
        play.ask(DELIVER, number + 4)
        self.assertEqual(play.ask(HOUSE), [0, 607, 0, 1, 7, 3, 0, 1, 2, 2, 1, 4620, 400, 3, 0, 0, 1, 5810, 200])
        play.ask(DELIVER, number + 3)
        self.assertEqual(play.ask(HOUSE), [0, 607, 0, 1, 7, 3, 0, 1, 2, 3, 1, 4620, 400, 3, 0, 0, 1, 5810, 200])

    def test_what_was_lost_at_once(self):
        for more in (0, 1, 2, 50):
            given = last_reply(GOOD_SET, *[(AGAIN, 0)] * (64 + more), (HOUSE,))
            self.assertEqual(given, [0, 0, 0, 0, 0, 0, more, 0, 0, 0, 0, 5000, 0, 0, 0, 0, 0, 6000, 0])

    def test_what_is_dropped_or_refused_is_not_lost_at_once(self):
        given = replies(GOOD_SET, *[(AGAIN, 0)] * 64, (DOUBLE, 1), (DROP, 1), (HOUSE,))
        self.assertEqual(given[-3:-1], [[-4], [0]])
        self.assertEqual(given[-1][6], 0)

    def test_the_result_1(self):
        given = last_reply(GOOD_SET, *OPENING, (PRESS, 0, 1), (DELIVER, 7), (TICK, 6020), (HOUSE,))
        self.assertEqual(given, [0, 6020, 1, 0, 0, 1, 0, 1, 1, 0, 1, 5010, 0, 1, 0, 0, 1, 0, 6000])

    def test_the_result_2(self):
        given = last_reply(GOOD_SET, *OPENING, (TICK, 5020), (TICK, 3), (HOUSE,))
        self.assertEqual(given, [0, 5023, 2, 0, 0, 0, 0, 1, 0, 0, 1, 0, 5000, 1, 0, 0, 1, 6000, 0])

    def test_the_result_3(self):
        play = Play(5000, 6000, 10, 20)
        play.make_moves(*range(60))
        play.ask(TICK, 3)
        self.assertEqual(play.ask(HOUSE), [0, 3, 3, 0, 0, 60, 0, 1, 30, 60, 1, 5300, 0, 1, 30, 60, 1, 6300, 0])

    def test_nobody_is_here_behind_a_restart(self):
        given = last_reply(GOOD_SET, *OPENING, (TICK, 9), (RESTART,), (HOUSE,))
        self.assertEqual(given, [0, 9, 0, 0, 0, 0, 0, 1, 0, 0, 0, 4991, 9, 1, 0, 0, 0, 6000, 0])


class ShowMachine(unittest.TestCase):
    def test_a_new_one(self):
        self.assertEqual(replies(GOOD_SET, (MACHINE, 0), (MACHINE, 1))[1:], [[0, 1, 0, 1, 0, 0, 0, 0, 0]] * 2)

    def test_one_that_is_on(self):
        given = replies(GOOD_SET, (TICK, 60), *OPENING, (MACHINE, 0), (MACHINE, 1))
        self.assertEqual(given[-2:], [[0, 1, 1, 1, 0, 60, 5000, 6000, 0], [0, 1, 1, 1, 0, 0, 5000, 6000, 0]])

    def test_with_a_request_and_without(self):
        given = replies(GOOD_SET, *OPENING, (TICK, 40), (PRESS, 0, 5), (MACHINE, 0), (DELIVER, 7), (MACHINE, 0),
                        (DELIVER, 8), (MACHINE, 0), (MACHINE, 1), (DELIVER, 9), (MACHINE, 1))
        self.assertEqual(given[11], [0, 1, 1, 2, 1, 0, 5000, 6000, 0])
        self.assertEqual(given[13], [0, 1, 1, 2, 1, 0, 5000, 6000, 0])
        self.assertEqual(given[15], [0, 1, 1, 2, 0, 0, 4970, 6000, 0, 5])
        self.assertEqual(given[16], [0, 1, 1, 1, 0, 0, 5000, 6000, 0])
        self.assertEqual(given[18], [0, 1, 1, 1, 0, 40, 4970, 6000, 0, 5])

    def test_one_that_has_heard_of_a_result(self):
        given = replies(GOOD_SET, *OPENING, (TICK, 5020), (MACHINE, 0), (NUDGE,), (DELIVER, 7), (MACHINE, 0),
                        (MACHINE, 1))
        self.assertEqual(given[10], [0, 1, 1, 1, 0, 0, 5000, 6000, 0])
        self.assertEqual(given[13], [0, 1, 1, 1, 0, 0, 0, 6000, 2])
        self.assertEqual(given[14], [0, 1, 1, 1, 0, 0, 5000, 6000, 0])

    def test_the_results_1_and_3(self):
        given = replies(GOOD_SET, *OPENING, (PRESS, 0, 8), (ROUNDS, 1), (TICK, 6020), (ROUNDS, 1), (MACHINE, 0),
                        (MACHINE, 1))
        self.assertEqual(given[-2:], [[0, 1, 1, 2, 0, 0, 5010, 0, 1, 8], [0, 1, 1, 1, 0, 0, 5010, 0, 1, 8]])
        play = Play(5000, 6000, 10, 20)
        play.ask(TICK, 2)
        play.make_moves(*range(60))
        moves = list(range(60))
        # Machine 0 learned last by the 60th move: by it its side would be to move.
        self.assertEqual(play.ask(MACHINE, 0), [0, 1, 1, 31, 0, 2, 5298, 6300, 3] + moves)
        self.assertEqual(play.ask(MACHINE, 1), [0, 1, 1, 31, 0, 2, 5298, 6300, 3] + moves)

    def test_the_moves_last_and_without_a_count(self):
        play = Play(5000, 6000, 10, 20)
        play.make_moves(0, 999, 0, 7)
        self.assertEqual(play.ask(MACHINE, 1), [0, 1, 1, 3, 0, 0, 5020, 6020, 0, 0, 999, 0, 7])

    def test_it_shows_what_the_machine_knows_not_the_log(self):
        given = replies(GOOD_SET, *OPENING, (PRESS, 0, 5), (DELIVER, 7), (LOG,), (MACHINE, 0), (MACHINE, 1))
        self.assertEqual(given[-3:], [[0, 5], [0, 1, 1, 2, 1, 0, 5000, 6000, 0], [0, 1, 1, 1, 0, 0, 5000, 6000, 0]])

    def test_banks_of_old_news_are_not_taken(self):
        # News 7 has no move and is older than news 10, by which machine 0 knows one.
        given = replies(GOOD_SET, *OPENING, (NUDGE,), (TICK, 40), (PRESS, 0, 5), (DELIVER, 9), (DELIVER, 10),
                        (MACHINE, 0), (DELIVER, 7), (MACHINE, 0))
        self.assertEqual(given[14], [0, 1, 1, 2, 0, 0, 4970, 6000, 0, 5])
        self.assertEqual(given[16], given[14])


class ShowLog(unittest.TestCase):
    def test_an_empty_one(self):
        self.assertEqual(last_reply(GOOD_SET, (LOG,)), [0])
        self.assertEqual(last_reply(GOOD_SET, *OPENING, (PRESS, 0, 5), (LOG,)), [0])

    def test_move_by_move(self):
        play = Play()
        play.make_moves(0)
        self.assertEqual(play.ask(LOG), [0, 0])
        play.make_moves(999, 0)
        self.assertEqual(play.ask(LOG), [0, 0, 999, 0])

    def test_sixty_moves(self):
        calls, moves = [(SET, 5000, 6000, 0, 0), (ROUNDS, 1)], []
        for at in range(60):
            moves.append(7 * at + 3)
            calls.extend([(PRESS, at % 2, moves[-1]), (ROUNDS, 1)])
        given = replies(*calls, (LOG,), (PRESS, 0, 1), (LOG,))
        self.assertEqual(given[-3:], [[0] + moves, [-3], [0] + moves])


if __name__ == "__main__":
    unittest.main()
