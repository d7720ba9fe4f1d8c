"""The house: the log of the moves, both clocks, and what it says to the sides."""

from netduel.messages import HELLO, REQUEST, News
from netduel.seat import Seat

GOES_ON = 0
EVEN = 3
FULL_LOG = 60
MOVES_IN_NEWS = 4


class House:
    def __init__(self, bank0, bank1, increment, lag):
        self.log = []
        self.result = GOES_ON
        self.runs = False
        self.since = 0
        self.increment = increment
        self.lag = lag
        self.seats = [Seat(bank0), Seat(bank1)]

    def side_to_move(self):
        return len(self.log) % 2

    def has_had(self, now):
        if self.runs:
            return now - self.since
        return 0

    def lose_on_time(self, side):
        seat = self.seats[side]
        seat.pay(seat.bank)
        # Result 1 says that side 0 has won, 2 that side 1 has: the other one of these two is the loser's.
        self.result = 2 - side
        self.runs = False

    def check_clock(self, now):
        if not self.runs or self.result != GOES_ON:
            return
        side = self.side_to_move()
        # A move made in time may still be on its way for as long as the lag.
        if self.has_had(now) >= self.seats[side].bank + self.lag:
            self.lose_on_time(side)

    def restart(self, now):
        mover = self.seats[self.side_to_move()]
        # As far as the bank reaches and no further: nobody loses by a crash of the house.
        mover.pay(min(self.has_had(now), mover.bank))
        self.runs = False
        for seat in self.seats:
            seat.here = False

    def tell(self, side, net):
        seat = self.seats[side]
        if not seat.here:
            return
        place = seat.acked
        moves = self.log[place:place + MOVES_IN_NEWS]
        banks = (self.seats[0].bank, self.seats[1].bank)
        net.send(News(side, seat.epoch, place, moves, seat.handled, banks, self.result))

    def tell_both(self, net):
        self.tell(0, net)
        self.tell(1, net)

    def hear(self, side, now):
        seat = self.seats[side]
        seat.here = True
        if self.runs or self.result != GOES_ON:
            return
        if self.seats[0].here and self.seats[1].here:
            self.runs = True
            self.since = now

    def arrive(self, message, now, net):
        if message.kind == HELLO:
            self.take_hello(message, now, net)
        elif message.kind == REQUEST:
            self.take_request(message, now, net)
        else:
            self.take_ack(message, now, net)

    def take_hello(self, hello, now, net):
        seat = self.seats[hello.side]
        if hello.epoch < seat.epoch:
            return
        if hello.epoch > seat.epoch:
            seat.begin(hello.epoch)
        self.hear(hello.side, now)
        self.tell(hello.side, net)

    def take_request(self, request, now, net):
        seat = self.seats[request.side]
        if request.epoch != seat.epoch:
            return
        self.hear(request.side, now)
        if request.number != seat.handled + 1:
            self.tell(request.side, net)
            return
        self.look_at(request, now)
        seat.handled = request.number
        self.tell(request.side, net)
        self.tell(1 - request.side, net)

    def take_ack(self, ack, now, net):
        seat = self.seats[ack.side]
        if ack.epoch != seat.epoch:
            return
        self.hear(ack.side, now)
        if ack.known <= seat.acked or ack.known > len(self.log):
            return
        seat.acked = ack.known
        if len(self.log) > seat.acked:
            self.tell(ack.side, net)

    def allows(self, request):
        if self.result != GOES_ON or not self.runs:
            return False
        if request.side != self.side_to_move() or request.ply != len(self.log):
            return False
        return self.log[-1:] != [request.move]

    def cost_of(self, thought, now):
        had = self.has_had(now)
        # At most the lag is forgiven, however little the machine says that its player thought.
        return max(min(thought, had), had - self.lag, 0)

    def look_at(self, request, now):
        if not self.allows(request):
            return
        seat = self.seats[request.side]
        cost = self.cost_of(request.thought, now)
        if seat.bank <= cost:
            self.lose_on_time(request.side)
            return
        seat.pay(cost)
        seat.bank += self.increment
        self.log.append(request.move)
        self.since = now
        if len(self.log) == FULL_LOG:
            self.result = EVEN
            self.runs = False
