"""The calls on a table that is set. Each gives back its answer, or its refusal and leaves all as it was."""

from netduel.table import Table

DONE = 0
OUT_OF_RANGE = -1
NO_SUCH_MESSAGE = -2
NOT_NOW = -3
NET_IS_FULL = -4
SAME_MOVE = -6

MOST_BANK = 1000000000
MOST_INCREMENT = 1000000
MOST_LAG = 100000
MOST_MS = 1000000000
MOST_MOVE = 999
MOST_ROUNDS = 10


def within(number, least, most):
    return least <= number and number <= most


def is_side(number):
    return within(number, 0, 1)


def new_table(bank0, bank1, increment, lag):
    """Gives back the table, or None where a number is out of its range."""
    if not within(bank0, 1, MOST_BANK) or not within(bank1, 1, MOST_BANK):
        return None
    if not within(increment, 0, MOST_INCREMENT) or not within(lag, 0, MOST_LAG):
        return None
    return Table(bank0, bank1, increment, lag)


def tick(table, ms):
    if not within(ms, 0, MOST_MS):
        return [OUT_OF_RANGE]
    table.time += ms
    table.house.check_clock(table.time)
    return [DONE, table.time, table.house.result]


def press(table, side, move):
    if not is_side(side) or not within(move, 0, MOST_MOVE):
        return [OUT_OF_RANGE]
    machine = table.machines[side]
    if not machine.can_press():
        return [NOT_NOW]
    if machine.is_last_move(move):
        return [SAME_MOVE]
    request = machine.press(move, table.time, table.net)
    return [DONE, request.number, request.thought]


def again(table, side):
    if not is_side(side):
        return [OUT_OF_RANGE]
    table.machines[side].timer(table.net)
    return [DONE]


def nudge(table):
    table.house.tell_both(table.net)
    return [DONE]


def deliver(table, number):
    if not table.net.holds(number):
        return [NO_SUCH_MESSAGE]
    # It leaves first: its place on the net is free for what is sent on its arrival.
    message = table.net.take(number)
    table.arrive(message)
    return [DONE]


def drop(table, number):
    if not table.net.holds(number):
        return [NO_SUCH_MESSAGE]
    table.net.take(number)
    return [DONE]


def double(table, number):
    if not table.net.holds(number):
        return [NO_SUCH_MESSAGE]
    if table.net.is_full():
        return [NET_IS_FULL]
    return [DONE, table.net.send(table.net.look(number))]


def crash(table, side):
    if not is_side(side):
        return [OUT_OF_RANGE]
    return [DONE, table.crash(side)]


def restart(table):
    table.restart()
    return [DONE]


def rounds(table, many):
    if not within(many, 1, MOST_ROUNDS):
        return [OUT_OF_RANGE]
    for done in range(many):
        table.go_round()
    return [DONE]


def show_net(table):
    return [DONE] + table.net.told()


def show_house(table):
    house = table.house
    now = table.time
    runs = 1 if house.runs else 0
    given = [DONE, now, house.result, runs, house.has_had(now), len(house.log), table.net.lost]
    for seat in house.seats:
        given.extend(seat.told())
    return given


def show_machine(table, side):
    if not is_side(side):
        return [OUT_OF_RANGE]
    return [DONE] + table.machines[side].told()


def show_log(table):
    return [DONE] + table.house.log
