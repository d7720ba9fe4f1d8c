"""The desk: takes a line of calls and gives back the line of their answers."""

from netduel.calls import DONE, OUT_OF_RANGE, again, crash, deliver, double, drop, new_table, nudge, press, restart
from netduel.calls import rounds, show_house, show_log, show_machine, show_net, tick

NOT_SET = -5

SET = 0
TICK = 1
PRESS = 2
AGAIN = 3
NUDGE = 4
DELIVER = 5
DROP = 6
DOUBLE = 7
CRASH = 8
RESTART = 9
ROUNDS = 10
NET = 11
HOUSE = 12
MACHINE = 13

# How many numbers stand behind each call's own, by that number.
HOW_MANY = (4, 1, 2, 1, 0, 1, 1, 1, 1, 0, 1, 0, 0, 1, 0)


class Desk:
    def __init__(self):
        self.table = None

    def answer(self, call, numbers):
        if call == SET:
            return self.set_table(numbers)
        if self.table is None:
            return [NOT_SET]
        return ask(self.table, call, numbers)

    def set_table(self, numbers):
        table = new_table(numbers[0], numbers[1], numbers[2], numbers[3])
        if table is None:
            return [OUT_OF_RANGE]
        self.table = table
        return [DONE]


def ask(table, call, numbers):
    if call == TICK:
        return tick(table, numbers[0])
    if call == PRESS:
        return press(table, numbers[0], numbers[1])
    if call == AGAIN:
        return again(table, numbers[0])
    if call == NUDGE:
        return nudge(table)
    if call == DELIVER:
        return deliver(table, numbers[0])
    if call == DROP:
        return drop(table, numbers[0])
    if call == DOUBLE:
        return double(table, numbers[0])
    if call == CRASH:
        return crash(table, numbers[0])
    if call == RESTART:
        return restart(table)
    if call == ROUNDS:
        return rounds(table, numbers[0])
    if call == NET:
        return show_net(table)
    if call == HOUSE:
        return show_house(table)
    if call == MACHINE:
        return show_machine(table, numbers[0])
    # Only the calls 0 to 14 are handed in: what is left is the log.
    return show_log(table)


def answers(calls):
    desk = Desk()
    given = []
    at = 0
    while at < len(calls):
        call = calls[at]
        end = at + 1 + HOW_MANY[call]
        answer = desk.answer(call, calls[at + 1:end])
        given.append(len(answer))
        given.extend(answer)
        at = end
    return given
