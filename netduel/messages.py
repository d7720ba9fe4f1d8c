"""The messages that go over the net. None is changed once it is made, so one may be sent again as it is."""

HELLO = 0
REQUEST = 1
ACK = 2
NEWS = 3


class Hello:
    def __init__(self, side, epoch):
        self.kind = HELLO
        self.side = side
        self.epoch = epoch


class Request:
    def __init__(self, side, epoch, number, ply, move, thought):
        self.kind = REQUEST
        self.side = side
        self.epoch = epoch
        self.number = number
        self.ply = ply
        self.move = move
        self.thought = thought


class Ack:
    def __init__(self, side, epoch, known):
        self.kind = ACK
        self.side = side
        self.epoch = epoch
        self.known = known


class News:
    def __init__(self, side, epoch, place, moves, handled, banks, result):
        self.kind = NEWS
        self.side = side
        self.epoch = epoch
        self.place = place
        self.moves = moves
        self.handled = handled
        self.banks = banks
        self.result = result
