"""What the house keeps of one side."""


class Seat:
    def __init__(self, bank):
        self.epoch = 0
        self.handled = 0
        self.acked = 0
        self.here = False
        self.bank = bank
        self.spent = 0

    def begin(self, epoch):
        self.epoch = epoch
        self.handled = 0
        self.acked = 0

    def pay(self, cost):
        self.bank -= cost
        self.spent += cost

    def told(self):
        return [self.epoch, self.handled, self.acked, 1 if self.here else 0, self.bank, self.spent]
