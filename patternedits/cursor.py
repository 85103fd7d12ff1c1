"""Going through a list of numbers from its beginning, without changing it."""


class Cursor:

    def __init__(self, numbers):
        self.numbers = numbers
        self.at = 0

    def at_end(self):
        return self.at >= len(self.numbers)

    # None is unlike every number, so that who looks for one need not ask for the end as well.
    def peek(self):
        return None if self.at_end() else self.numbers[self.at]

    def take(self):
        number = self.numbers[self.at]
        self.at += 1
        return number

    def take_list(self):
        count = self.take()
        begin = self.at
        self.at += count
        return self.numbers[begin:self.at]
