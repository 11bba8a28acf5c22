"""Reading a flat list of calls from its beginning to its end."""


class Reader:
    # The list is the caller's: it is read by position and never written.
    def __init__(self, numbers):
        self.numbers = numbers
        self.position = 0

    def has_more(self):
        return self.position < len(self.numbers)

    def number(self):
        found = self.numbers[self.position]
        self.position = self.position + 1
        return found

    def row(self):
        length = self.number()
        start = self.position
        self.position = start + length
        return self.numbers[start:self.position]
