"""The messages that go over the net, each with its numbers as they are told.

None is changed once it is made, so one may be sent again as it is.
"""

HELLO = 0
REQUEST = 1
ACK = 2
NEWS = 3


class Hello:
    def __init__(self, side, epoch):
        self.kind = HELLO
        self.side = side
        self.epoch = epoch

    def told(self):
        return [self.side, self.epoch]


class Request:
    def __init__(self, side, epoch, number, ply, move, thought):
        self.kind = REQUEST
        self.side = side
        self.epoch = epoch
        self.number = number
        self.ply = ply
        self.move = move
        self.thought = thought

    def told(self):
        return [self.side, self.epoch, self.number, self.ply, self.move, self.thought]


class Ack:
    def __init__(self, side, epoch, known):
        self.kind = ACK
        self.side = side
        self.epoch = epoch
        self.known = known

    def told(self):
        return [self.side, self.epoch, self.known]


class News:
    def __init__(self, side, epoch, place, moves, handled, banks, result):
        self.kind = NEWS
        self.side = side
        self.epoch = epoch
        self.place = place
        self.moves = moves
        self.handled = handled
        self.banks = banks
        self.result = result

    def told(self):
        given = [self.side, self.epoch, self.place, len(self.moves)]
        given.extend(self.moves)
        given.extend([self.handled, self.banks[0], self.banks[1], self.result])
        return given
