"""A player's machine: what it knows of the game, and the request that it waits to hear of."""

from netduel.messages import Ack, Hello, Request


class Machine:
    def __init__(self, side, epoch):
        self.side = side
        self.epoch = epoch
        self.on = False
        self.moves = []
        self.next_request = 1
        self.request = None
        self.learned = 0
        self.banks = (0, 0)
        self.result = 0

    def is_to_move(self):
        return len(self.moves) % 2 == self.side

    def can_press(self):
        return self.on and self.request is None and self.result == 0 and self.is_to_move()

    def is_last_move(self, move):
        return self.moves[-1:] == [move]

    def press(self, move, now, net):
        thought = now - self.learned
        request = Request(self.side, self.epoch, self.next_request, len(self.moves), move, thought)
        self.request = request
        self.next_request += 1
        net.send(request)
        return request

    def send_ack(self, net):
        net.send(Ack(self.side, self.epoch, len(self.moves)))

    def timer(self, net):
        if not self.on:
            net.send(Hello(self.side, self.epoch))
        elif self.request is not None:
            net.send(self.request)
        else:
            self.send_ack(net)

    def take_news(self, news, now, net):
        if news.epoch != self.epoch:
            return
        was_on = self.on
        known = len(self.moves)
        self.on = True
        self.add_moves(news)
        self.forget_request(news.handled)
        if self.is_to_move() and (len(self.moves) > known or not was_on):
            self.learned = now
        # News that ends before what was known already is old, and so are its banks.
        if news.place + len(news.moves) >= known:
            self.banks = news.banks
        if news.result != 0:
            self.result = news.result
        self.send_ack(net)

    def add_moves(self, news):
        known = len(self.moves)
        # Beyond a gap nothing can be added: the moves known are to stay the log's beginning.
        if news.place <= known:
            self.moves.extend(news.moves[known - news.place:])

    def forget_request(self, handled):
        if self.request is not None and self.request.number <= handled:
            self.request = None

    def told(self):
        waits = 0 if self.request is None else 1
        given = [self.epoch, 1 if self.on else 0, self.next_request, waits, self.learned]
        given.extend([self.banks[0], self.banks[1], self.result])
        given.extend(self.moves)
        return given
