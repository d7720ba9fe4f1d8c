"""The net: messages on their way, and the count of those that found it full."""

MOST_MESSAGES = 64


class Net:
    def __init__(self):
        # Numbers only grow, so the dict's own order is the order of sending.
        self.waiting = {}
        self.next_number = 1
        self.lost = 0

    def is_empty(self):
        return len(self.waiting) == 0

    def is_full(self):
        return len(self.waiting) >= MOST_MESSAGES

    def holds(self, number):
        return number in self.waiting

    def look(self, number):
        return self.waiting[number]

    def send(self, message):
        number = self.next_number
        self.next_number = number + 1
        if self.is_full():
            self.lost += 1
        else:
            self.waiting[number] = message
        return number

    def take(self, number):
        return self.waiting.pop(number)

    def take_oldest(self):
        return self.take(list(self.waiting)[0])

    def told(self):
        given = []
        for number, message in self.waiting.items():
            given.extend([number, message.kind])
            given.extend(message.told())
        return given
