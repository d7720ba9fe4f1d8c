"""Whole lines over all the calls together, with the whole list that is given back."""

import random
import unittest

from netduel.desk import answers
from play import (AGAIN, CRASH, DELIVER, DOUBLE, DROP, EVERY_CALL_BUT_SET, HOUSE, LEAST, LOG, MACHINE, MOST, NET, NUDGE,
                  PRESS, RESTART, ROUNDS, SET, TICK, Play, line)

# Each call with its whole answer, reckoned by hand; the remarks tell the messages that are sent.
BY_HAND = (
    ((SET, 1000, 2000, 50, 30), [0]),
    ((HOUSE,), [0, 0, 0, 0, 0, 0, 0, 0, 0, 0, 0, 1000, 0, 0, 0, 0, 0, 2000, 0]),
    ((AGAIN, 0), [0]),  # 1 hello
    ((AGAIN, 1), [0]),  # 2 hello
    ((DOUBLE, 2), [0, 3]),
    ((NET,), [0, 1, 0, 0, 1, 2, 0, 1, 1, 3, 0, 1, 1]),
    ((DELIVER, 2), [0]),  # 4 news of side 1
    ((TICK, 15), [0, 15, 0]),
    ((DELIVER, 1), [0]),  # 5 news of side 0; the clock runs since 15
    ((DROP, 3), [0]),
    ((DELIVER, 5), [0]),  # 6 ack of side 0
    ((MACHINE, 0), [0, 1, 1, 1, 0, 15, 1000, 2000, 0]),
    ((TICK, 25), [0, 40, 0]),
    ((PRESS, 0, 700), [0, 1, 25]),  # 7 request
    ((PRESS, 0, 701), [-3]),
    ((TICK, 40), [0, 80, 0]),
    ((CRASH, 0), [0, 2]),
    # Side 0 thought for 25 and has had 65, of which the lag forgives 30: it costs 35.
    ((DELIVER, 7), [0]),  # 8 news of side 0, 9 news of side 1
    ((NET,), [0, 4, 3, 1, 1, 0, 0, 0, 1000, 2000, 0, 6, 2, 0, 1, 0, 8, 3, 0, 1, 0, 1, 700, 1, 1015, 2000, 0,
              9, 3, 1, 1, 0, 1, 700, 0, 1015, 2000, 0]),
    ((DELIVER, 9), [0]),  # 10 ack of side 1
    ((DELIVER, 4), [0]),  # 11 ack of side 1; the news is old
    ((MACHINE, 1), [0, 1, 1, 1, 0, 80, 1015, 2000, 0, 700]),
    ((PRESS, 1, 700), [-6]),
    ((TICK, 100), [0, 180, 0]),
    ((PRESS, 1, 5), [0, 1, 100]),  # 12 request
    ((RESTART,), [0]),
    ((HOUSE,), [0, 180, 0, 0, 0, 1, 0, 1, 1, 0, 0, 1015, 35, 1, 0, 0, 0, 1900, 100]),
    # Side 0 isn't here, so the clock doesn't run and nothing comes of the move.
    ((DELIVER, 12), [0]),  # 13 news of side 1
    ((AGAIN, 0), [0]),  # 14 hello in epoch 2
    # Timers: 15 hello, 16 request, 17 news of side 1. By 6, of the epoch that the house knows, the clock runs;
    # on 13 is sent 18, on 14 19, on 15 20, on 16 21, on 17 22, on 19 23, on 20 24, on 21 25.
    ((ROUNDS, 1), [0]),
    ((NET,), [0]),
    ((MACHINE, 0), [0, 2, 1, 1, 0, 0, 1015, 1900, 0, 700]),
    ((MACHINE, 1), [0, 1, 1, 2, 0, 80, 1015, 1900, 0, 700]),
    ((HOUSE,), [0, 180, 0, 1, 0, 1, 0, 2, 0, 1, 1, 1015, 35, 1, 1, 1, 1, 1900, 100]),
    ((TICK, 20), [0, 200, 0]),
    ((PRESS, 1, 6), [0, 2, 120]),  # 26 request
    ((DELIVER, 26), [0]),  # 27 news of side 1, 28 news of side 0; it costs 20
    ((LOG,), [0, 700, 6]),
    ((NUDGE,), [0]),  # 29 and 30 news
    ((NET,), [0, 27, 3, 1, 1, 1, 1, 6, 2, 1015, 1930, 0, 28, 3, 0, 2, 1, 1, 6, 0, 1015, 1930, 0,
              29, 3, 0, 2, 1, 1, 6, 0, 1015, 1930, 0, 30, 3, 1, 1, 1, 1, 6, 2, 1015, 1930, 0]),
    ((TICK, 1044), [0, 1244, 0]),
    ((TICK, 1), [0, 1245, 2]),
    # 31 to 34 by the timers, 35 to 42 on what arrives; then 43 to 48.
    ((ROUNDS, 2), [0]),
    ((MACHINE, 0), [0, 2, 1, 1, 0, 1245, 0, 1930, 2, 700, 6]),
    ((MACHINE, 1), [0, 1, 1, 3, 0, 80, 0, 1930, 2, 700, 6]),
    ((PRESS, 0, 1), [-3]),
    ((HOUSE,), [0, 1245, 2, 0, 0, 2, 0, 2, 0, 2, 1, 0, 1050, 1, 2, 2, 1, 1930, 120]),
    ((AGAIN, 1), [0]),  # 49 ack
    ((NET,), [0, 49, 2, 1, 1, 2]),
    ((DELIVER, 50), [-2]),
    ((ROUNDS, 11), [-1]),
    ((MACHINE, 2), [-1]),
    ((CRASH, -1), [-1]),
    ((SET, 0, 8, 0, 0), [-1]),
    ((NET,), [0, 49, 2, 1, 1, 2]),
    ((SET, 7, 8, 0, 0), [0]),
    ((HOUSE,), [0, 0, 0, 0, 0, 0, 0, 0, 0, 0, 0, 7, 0, 0, 0, 0, 0, 8, 0]),
    ((MACHINE, 0), [0, 1, 0, 1, 0, 0, 0, 0, 0]),
    ((MACHINE, 1), [0, 1, 0, 1, 0, 0, 0, 0, 0]),
    ((NET,), [0]),
    ((LOG,), [0]),
    ((ROUNDS, 10), [0]),
    ((AGAIN, 0), [0]),
    ((NET,), [0, 61, 2, 0, 1, 0]),
)


def flat(replies):
    given = []
    for reply in replies:
        given.extend([len(reply)] + reply)
    return given


class ByHand(unittest.TestCase):
    def test_call_by_call(self):
        given = answers(line(*[call for call, reply in BY_HAND]))
        self.assertEqual(given, flat([reply for call, reply in BY_HAND]))

    def test_from_before_the_first_set_on(self):
        calls = [call for call, reply in BY_HAND]
        given = answers(line(*calls[1:], *calls))
        first_set = calls.index((SET, 0, 8, 0, 0)) - 1
        self.assertEqual(given[:2 * first_set], [1, -5] * first_set)
        whole = flat([reply for call, reply in BY_HAND])
        self.assertEqual(given[-len(whole):], whole)

    def test_a_game_of_sixty_moves_in_four_hundred_calls(self):
        bank, increment = 100000, 7
        calls, replies = [(SET, bank, bank, increment, 0), (ROUNDS, 1)], [[0], [0]]
        log, spent, time = [], [0, 0], 0
        for at in range(60):
            side, time = at % 2, time + at
            calls.extend([(TICK, at), (PRESS, side, 900 - at), (ROUNDS, 1), (LOG,), (HOUSE,), (NET,)])
            log.append(900 - at)
            spent[side] += at
            made = [len(log[0::2]), len(log[1::2])]
            house = [0, time, 3 if len(log) == 60 else 0, 0 if len(log) == 60 else 1, 0, len(log), 0]
            for one in (0, 1):
                house += [1, made[one], len(log), 1, bank + increment * made[one] - spent[one], spent[one]]
            replies.extend([[0, time, 0], [0, made[side], at], [0], [0] + log, house, [0]])
        banks = [bank + increment * 30 - spent[side] for side in (0, 1)]
        for side in (0, 1) * 19:
            calls.append((MACHINE, side))
            # By the 60th move side 0 learned last, by the 59th side 1.
            replies.append([0, 1, 1, 31, 0, time - 59 * (side == 1)] + banks + [3] + log)
        self.assertEqual(len(calls), 400)
        self.assertEqual(answers(line(*calls)), flat(replies))


class Model:
    """The document's words once more, in another form: a side's values are a dict, a message is a tuple."""

    def __init__(self):
        self.there = False

    def begin(self, epoch):
        return dict(epoch=epoch, on=False, moves=[], next=1, request=None, learned=0, banks=(0, 0), result=0)

    def set(self, bank0, bank1, increment, lag):
        if not (1 <= bank0 <= 10**9 and 1 <= bank1 <= 10**9 and 0 <= increment <= 10**6 and 0 <= lag <= 10**5):
            return [-1]
        self.there, self.time, self.log, self.net, self.sent, self.lost = True, 0, [], [], 0, 0
        self.since, self.result, self.increment, self.lag = None, 0, increment, lag
        self.sides = [dict(epoch=0, handled=0, acked=0, here=0, bank=bank, spent=0) for bank in (bank0, bank1)]
        self.machines = [self.begin(1), self.begin(1)]
        return [0]

    def had(self):
        return 0 if self.since is None else self.time - self.since

    def send(self, *message):
        self.sent += 1
        if len(self.net) == 64:
            self.lost += 1
        else:
            self.net.append((self.sent, message))

    def take(self, number):
        for at, (other, message) in enumerate(self.net):
            if other == number:
                del self.net[at]
                return message
        return None

    def spend(self, side, cost):
        self.sides[side]["bank"] -= cost
        self.sides[side]["spent"] += cost

    def time_is_up(self, side):
        self.spend(side, self.sides[side]["bank"])
        self.result, self.since = (2, 1)[side], None

    def tell(self, side):
        of = self.sides[side]
        if of["here"]:
            moves = tuple(self.log[of["acked"]:][:4])
            self.send(3, side, of["epoch"], of["acked"], moves, of["handled"], self.sides[0]["bank"],
                      self.sides[1]["bank"], self.result)

    def timer(self, side):
        of = self.machines[side]
        if not of["on"]:
            self.send(0, side, of["epoch"])
        elif of["request"]:
            self.send(*of["request"])
        else:
            self.send(2, side, of["epoch"], len(of["moves"]))

    def timers(self):
        for side in (0, 1):
            self.timer(side)
        for side in (0, 1):
            self.tell(side)

    def hear(self, side):
        self.sides[side]["here"] = 1
        if self.since is None and self.result == 0 and self.sides[0]["here"] and self.sides[1]["here"]:
            self.since = self.time

    def arrive(self, message):
        kind, side, epoch, rest = message[0], message[1], message[2], message[3:]
        of = self.sides[side]
        if kind == 3:
            if epoch == self.machines[side]["epoch"]:
                self.news(side, self.machines[side], *rest)
        elif kind == 0 and epoch >= of["epoch"]:
            if epoch > of["epoch"]:
                of.update(epoch=epoch, handled=0, acked=0)
            self.hear(side)
            self.tell(side)
        elif kind == 1 and epoch == of["epoch"]:
            self.hear(side)
            if rest[0] == of["handled"] + 1:
                self.look_at(side, *rest[1:])
                of["handled"] = rest[0]
                self.tell(side)
                self.tell(1 - side)
            else:
                self.tell(side)
        elif kind == 2 and epoch == of["epoch"]:
            self.hear(side)
            if of["acked"] < rest[0] <= len(self.log):
                of["acked"] = rest[0]
                if rest[0] < len(self.log):
                    self.tell(side)

    def look_at(self, side, ply, move, thought):
        if self.result or self.since is None or len(self.log) % 2 != side or ply != len(self.log):
            return
        if self.log and self.log[-1] == move:
            return
        cost = max(min(thought, self.had()), max(self.had() - self.lag, 0))
        if self.sides[side]["bank"] <= cost:
            self.time_is_up(side)
            return
        self.spend(side, cost)
        self.sides[side]["bank"] += self.increment
        self.log.append(move)
        self.since = self.time
        if len(self.log) == 60:
            self.result, self.since = 3, None

    def news(self, side, of, place, moves, handled, bank0, bank1, result):
        before, was_on = len(of["moves"]), of["on"]
        if place <= before < place + len(moves):
            of["moves"] = of["moves"] + [move for at, move in enumerate(moves, place) if at >= before]
        of["on"] = True
        if of["request"] and of["request"][3] <= handled:
            of["request"] = None
        if len(of["moves"]) % 2 == side and (len(of["moves"]) > before or not was_on):
            of["learned"] = self.time
        if place + len(moves) >= before:
            of["banks"] = (bank0, bank1)
        if result:
            of["result"] = result
        self.send(2, side, of["epoch"], len(of["moves"]))

    def press(self, side, move):
        if side not in (0, 1) or not 0 <= move <= 999:
            return [-1]
        of = self.machines[side]
        if not of["on"] or of["request"] or of["result"] or len(of["moves"]) % 2 != side:
            return [-3]
        if of["moves"] and of["moves"][-1] == move:
            return [-6]
        of["request"] = (1, side, of["epoch"], of["next"], len(of["moves"]), move, self.time - of["learned"])
        of["next"] += 1
        self.send(*of["request"])
        return [0, of["request"][3], of["request"][6]]

    def tick(self, ms):
        if not 0 <= ms <= 10**9:
            return [-1]
        self.time += ms
        side = len(self.log) % 2
        if self.since is not None and self.result == 0 and self.had() >= self.sides[side]["bank"] + self.lag:
            self.time_is_up(side)
        return [0, self.time, self.result]

    def message(self, call, number):
        if number not in dict(self.net):
            return [-2]
        if call == DOUBLE:
            if len(self.net) == 64:
                return [-4]
            self.send(*dict(self.net)[number])
            return [0, self.sent]
        message = self.take(number)
        if call == DELIVER:
            self.arrive(message)
        return [0]

    def restart(self):
        side = len(self.log) % 2
        self.spend(side, min(self.had(), self.sides[side]["bank"]))
        self.since = None
        for of in self.sides:
            of["here"] = 0
        return [0]

    def rounds(self, many):
        if many not in range(1, 11):
            return [-1]
        while many:
            many -= 1
            self.timers()
            while self.net:
                self.arrive(self.net.pop(0)[1])
        return [0]

    def show_net(self):
        given = [0]
        for number, message in self.net:
            given.append(number)
            for one in message:
                given.extend([len(one), *one] if isinstance(one, tuple) else [one])
        return given

    def show_house(self):
        clock = [int(self.since is not None), self.had()]
        given = [0, self.time, self.result, *clock, len(self.log), self.lost]
        for of in self.sides:
            given.extend(of[name] for name in ("epoch", "handled", "acked", "here", "bank", "spent"))
        return given

    def show_machine(self, of):
        return [0, of["epoch"], int(of["on"]), of["next"], int(of["request"] is not None), of["learned"], *of["banks"],
                of["result"], *of["moves"]]

    def on_side(self, call, side):
        if side not in (0, 1):
            return [-1]
        if call == AGAIN:
            self.timer(side)
            return [0]
        if call == MACHINE:
            return self.show_machine(self.machines[side])
        self.machines[side] = self.begin(self.machines[side]["epoch"] + 1)
        return [0, self.machines[side]["epoch"]]

    def ask(self, call, *numbers):
        if call != SET and not self.there:
            return [-5]
        if call in (AGAIN, MACHINE, CRASH):
            return self.on_side(call, *numbers)
        if call in (DELIVER, DROP, DOUBLE):
            return self.message(call, *numbers)
        if call == NUDGE:
            self.tell(0)
            self.tell(1)
            return [0]
        if call == LOG:
            return [0] + self.log
        of_call = {SET: self.set, TICK: self.tick, PRESS: self.press, RESTART: self.restart, ROUNDS: self.rounds,
                   NET: self.show_net, HOUSE: self.show_house}
        return of_call[call](*numbers)


ANY_NUMBER = (LEAST, -1, 0, 1, 2, 10, 11, 999, 1000, 1000000001, MOST)
# How often each call is picked: a calm net, a game to its end, a wild net, much trouble, and much to see.
WEIGHTS = (
    (0, 6, 20, 8, 3, 35, 2, 2, 1, 1, 8, 3, 4, 4, 3),
    (0, 4, 60, 2, 1, 3, 1, 1, 1, 1, 60, 2, 3, 2, 2),
    (1, 8, 12, 14, 8, 25, 8, 12, 3, 2, 1, 2, 2, 1, 1),
    (1, 9, 14, 14, 5, 20, 8, 6, 8, 6, 4, 2, 2, 1, 1),
    (1, 5, 10, 15, 15, 8, 2, 20, 2, 2, 1, 5, 5, 5, 3),
)
TABLES = ((100000, 90000, 0, 0), (900, 1200, 5, 30), (300, 300, 40, 100000), (5000, 5000, 1000000, 1), (1, 1, 0, 0))


def random_numbers(source, model, call):
    numbers = [number for number, message in getattr(model, "net", [])]
    if call in (DELIVER, DROP, DOUBLE):
        # Mostly the oldest ones, so that a game gets on.
        return (source.choice(numbers[:3] + numbers or [1]),)
    if call == SET:
        return source.choice(TABLES)
    if call == TICK:
        return (source.choice((0, 1, 5, 20, 60, 250)),)
    if call == PRESS:
        side = len(getattr(model, "log", [])) % 2 if source.random() < 0.8 else source.randrange(2)
        return (side, source.randrange(5))
    if call == ROUNDS:
        return (source.choice((1, 1, 2, 10)),)
    return (source.randrange(2),) if call in (AGAIN, CRASH, MACHINE) else ()


def random_line(seed, begins=(), sets=True):
    """400 calls and their answers by the model; most of the calls aren't refused."""
    source, model = random.Random(seed), Model()
    weights = WEIGHTS[seed % len(WEIGHTS)] if sets else (0, *WEIGHTS[seed % len(WEIGHTS)][1:])
    calls = list(begins) or [(SET, *source.choice(TABLES))]
    replies = [model.ask(*call) for call in calls]
    while len(calls) < 400:
        call = source.choices(range(15), weights)[0]
        numbers = random_numbers(source, model, call)
        if source.random() < 0.03:
            numbers = tuple(source.choice(ANY_NUMBER) for number in numbers)
        calls.append((call, *numbers))
        replies.append(model.ask(*calls[-1]))
    return calls, replies


class ByTheModel(unittest.TestCase):
    def test_the_model_by_hand(self):
        model = Model()
        self.assertEqual([model.ask(*call) for call, reply in BY_HAND], [reply for call, reply in BY_HAND])

    def test_four_hundred_calls_at_random(self):
        seen, longest, results, lost = {}, 0, set(), 0
        for seed in range(200):
            # Every tenth line asks for each thing before the first set.
            early = () if seed % 10 else (*EVERY_CALL_BUT_SET, (SET, *TABLES[0]))
            calls, replies = random_line(seed, early)
            self.assertEqual(answers(line(*calls)), flat(replies), f"seed {seed}")
            for call, reply in zip(calls, replies):
                seen.setdefault(call[0], set()).add(min(reply[0], 0))
                if call[0] == HOUSE and len(reply) > 1:
                    longest, lost = max(longest, reply[5]), max(lost, reply[6])
                    results.add(reply[2])
        # The lines are worth something only if they come about in the whole of what there is to answer.
        self.assertEqual({call: sorted(found) for call, found in seen.items()}, {
            SET: [-1, 0], TICK: [-5, -1, 0], PRESS: [-6, -5, -3, -1, 0], AGAIN: [-5, -1, 0], NUDGE: [-5, 0],
            DELIVER: [-5, -2, 0], DROP: [-5, -2, 0], DOUBLE: [-5, -4, -2, 0], CRASH: [-5, -1, 0], RESTART: [-5, 0],
            ROUNDS: [-5, -1, 0], NET: [-5, 0], HOUSE: [-5, 0], MACHINE: [-5, -1, 0], LOG: [-5, 0]})
        self.assertEqual(results, {0, 1, 2, 3})
        self.assertEqual(longest, 60)
        self.assertGreater(lost, 20)

    def test_asked_twice_with_other_lines_between(self):
        lines = [random_line(seed) for seed in range(8)]
        first = [answers(line(*calls)) for calls, replies in lines]
        second = [answers(line(*calls)) for calls, replies in reversed(lines)]
        self.assertEqual(first, second[::-1])

    def test_what_is_handed_in_stays_as_it_was(self):
        for seed in range(8):
            calls = line(*random_line(seed)[0])
            copy = list(calls)
            answers(calls)
            self.assertEqual(calls, copy)
            self.assertEqual([type(number) for number in calls], [int] * len(calls))

    def test_only_whole_numbers_are_given_back(self):
        for seed in range(8):
            given = answers(line(*random_line(seed)[0]))
            self.assertIs(type(given), list)
            self.assertEqual({type(number) for number in given}, {int})


class OfEveryTable(unittest.TestCase):
    """What the document promises of the whole, call by call on lines at random."""

    def check(self, play, start):
        log, house = play.house.log, play.ask(HOUSE)
        self.assertTrue(all(one != other for one, other in zip(log, log[1:])))
        self.assertLessEqual(len(log), 60)
        self.assertLessEqual(len(play.numbers()), 64)
        self.assertEqual(play.numbers(), sorted(play.numbers()))
        self.assertIn(house[2:4], ([0, 0], [0, 1], [1, 0], [2, 0], [3, 0]))
        for side in (0, 1):
            epoch, handled, acked, here, bank, spent = house[7 + 6 * side:13 + 6 * side]
            shown = play.ask(MACHINE, side)
            self.assertEqual(shown[9:], log[:len(shown) - 9])
            self.assertLessEqual(epoch, shown[1])
            if epoch == shown[1]:
                self.assertLess(handled, shown[3])
                self.assertLessEqual(acked, len(shown) - 9)
            self.assertIn(shown[8], (0, house[2]))
            self.assertGreaterEqual(bank, 0)
            self.assertEqual(bank + spent, start[side] + start[2] * len(log[side::2]))
        self.assertLessEqual(house[12] + house[18], house[1])

    def check_that_all_know_all(self, play):
        play.ask(ROUNDS, 3)
        house, log = play.ask(HOUSE), play.ask(LOG)[1:]
        for side in (0, 1):
            shown = play.ask(MACHINE, side)
            self.assertEqual((shown[2], shown[4], shown[8], shown[9:]), (1, 0, house[2], log))
            self.assertEqual(shown[6:8], [house[11], house[17]])

    def test_at_random(self):
        for seed in range(40):
            # Not by the seed itself, which picks the weights, of which there are as many as tables.
            start = TABLES[seed // len(WEIGHTS) % len(TABLES)]
            play = Play(*start, opened=False)
            before = []
            for call in random_line(seed, [(SET, *start)], sets=False)[0][1:]:
                state = play.state()
                if play.ask(*call)[0] < 0:
                    self.assertEqual(play.state(), state)
                self.check(play, start)
                # What is in the log stays there.
                self.assertEqual(play.house.log[:len(before)], before)
                before = list(play.house.log)
            self.check_that_all_know_all(play)


if __name__ == "__main__":
    unittest.main()
