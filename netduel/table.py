"""A table that is set: the time, the house, both machines and the net between them."""

from netduel.house import House
from netduel.machine import Machine
from netduel.messages import NEWS
from netduel.net import Net

FIRST_EPOCH = 1


class Table:
    def __init__(self, bank0, bank1, increment, lag):
        self.time = 0
        self.house = House(bank0, bank1, increment, lag)
        self.machines = [Machine(0, FIRST_EPOCH), Machine(1, FIRST_EPOCH)]
        self.net = Net()

    def arrive(self, message):
        if message.kind == NEWS:
            self.machines[message.side].take_news(message, self.time, self.net)
        else:
            self.house.arrive(message, self.time, self.net)

    def crash(self, side):
        epoch = self.machines[side].epoch + 1
        self.machines[side] = Machine(side, epoch)
        return epoch

    def restart(self):
        self.house.restart(self.time)

    def go_round(self):
        for machine in self.machines:
            machine.timer(self.net)
        self.house.tell_both(self.net)
        # This ends: an ack is answered only where it raises what is acked, and nothing is answered to old epochs.
        while not self.net.is_empty():
            self.arrive(self.net.take_oldest())
