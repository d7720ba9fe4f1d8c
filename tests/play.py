"""What the tests share: lines of calls, their answers one by one, and a table to look into."""

from netduel.desk import Desk, answers

SET, TICK, PRESS, AGAIN, NUDGE, DELIVER, DROP, DOUBLE, CRASH, RESTART, ROUNDS, NET, HOUSE, MACHINE, LOG = range(15)

LEAST = -1000000000000000000
MOST = 1000000000000000000

# Each call with numbers that are fine once a table is set.
EVERY_CALL_BUT_SET = (
    (TICK, 0), (PRESS, 0, 5), (AGAIN, 0), (NUDGE,), (DELIVER, 1), (DROP, 1), (DOUBLE, 1),
    (CRASH, 0), (RESTART,), (ROUNDS, 1), (NET,), (HOUSE,), (MACHINE, 0), (LOG,),
)

# Both machines are on, the clock runs since 0, the net is empty, the next message is number 7.
OPENING = (
    (AGAIN, 0), (AGAIN, 1), (DELIVER, 1), (DELIVER, 2),
    (DELIVER, 3), (DELIVER, 4), (DELIVER, 5), (DELIVER, 6),
)


def line(*calls):
    return [number for call in calls for number in call]


def replies(*calls):
    """The answer of each call, as a list of its own."""
    given = answers(line(*calls))
    split = []
    at = 0
    while at < len(given):
        split.append(given[at + 1:at + 1 + given[at]])
        at += 1 + given[at]
    if at != len(given) or len(split) != len(calls):
        raise AssertionError(f"not {len(calls)} whole answers: {given}")
    return split


def last_reply(*calls):
    return replies(*calls)[-1]


def plain(value):
    """A value with all that hangs on it, in a form that can be compared and doesn't change later."""
    if isinstance(value, (list, tuple)):
        return tuple(plain(one) for one in value)
    if isinstance(value, dict):
        return tuple((key, plain(one)) for key, one in value.items())
    if hasattr(value, "__dict__"):
        return (type(value).__name__, plain(vars(value)))
    return value


class Play:
    """One table, asked call by call, that a test can look into."""

    def __init__(self, bank0=100000, bank1=100000, increment=0, lag=0, opened=True):
        self.desk = Desk()
        self.ask(SET, bank0, bank1, increment, lag)
        if opened:
            for call in OPENING:
                self.ask(*call)

    @property
    def table(self):
        return self.desk.table

    @property
    def house(self):
        return self.desk.table.house

    @property
    def net(self):
        return self.desk.table.net

    def seat(self, side):
        return self.house.seats[side]

    def machine(self, side):
        return self.desk.table.machines[side]

    def ask(self, call, *numbers):
        return self.desk.answer(call, list(numbers))

    def state(self):
        return plain(self.desk.table)

    def plain_house(self):
        return plain(self.house)

    def numbers(self):
        return list(self.net.waiting)

    def messages(self):
        """The messages on the net, each as its numbers in the order in which the document tells them."""
        return [flat_message(message) for message in self.net.waiting.values()]

    def clear_but(self, kept):
        for number in self.numbers():
            if number != kept:
                self.ask(DROP, number)

    def clear(self):
        self.clear_but(0)

    def settle(self):
        """Delivers, the oldest first, till the net is empty."""
        while self.numbers():
            self.ask(DELIVER, self.numbers()[0])

    def arrive(self, message):
        """Lets a message arrive that no machine of this table has sent; gives back what is sent on it."""
        before = self.numbers()
        self.table.arrive(message)
        return self.messages()[len(before):]

    def make_moves(self, *moves):
        """Each move is pressed by the side that is to move, and everyone hears of it."""
        for move in moves:
            side = self.house.side_to_move()
            if self.ask(PRESS, side, move)[0] != 0:
                raise AssertionError(f"move {move} can't be pressed")
            self.settle()

    def fill_net(self):
        """Sends hellos or acks of side 0 till the net is full."""
        while len(self.numbers()) < 64:
            self.ask(AGAIN, 0)


def flat_message(message):
    flat = []
    for name, value in vars(message).items():
        if name == "moves":
            flat.append(tuple(value))
        elif name == "banks":
            flat.extend(value)
        else:
            flat.append(value)
    return tuple(flat)
