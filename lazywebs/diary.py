"""A store that is never swept, and knows behind that what sweeps would have kept."""

from lazywebs.cells import ends_of, named_by


class Diary:
    """Cells with what was noted of them: what was done ahead of which making."""

    def __init__(self, first):
        self.web = dict(enumerate(first))
        self._first = len(first)
        self._made = 0
        # By its number how many cells had been made when a cell was let go last,
        # when it became the same as another, and, with it, when it ceased to
        # name cells.
        self._let_go = {}
        self._same = {}
        self._ceased = {}

    def holds_first(self):
        """Whether there is room for the cells that are there at first."""
        return True

    def is_full(self):
        """Whether there is no room for one more cell."""
        return False

    def is_sweep_due(self):
        """Whether it is to be swept ahead of the next making."""
        return False

    def add(self, cell):
        """The number of a new cell, one that no cell ever had."""
        number = len(self.web)
        self.web[number] = cell
        self._made += 1
        return number

    def write(self, number, cell):
        """Writes the cell over."""
        named = [(other, self._made) for other in named_by(self.web[number])]
        self._ceased[number] = [*self._ceased.get(number, []), *named]
        if cell[0] == "same":
            self._same[number] = self._made
        self.web[number] = cell

    def let_go(self, numbers):
        """Is told of cells that are no more held."""
        for number in numbers:
            self._let_go[number] = self._made

    def _until(self):
        """By each cell the last making ahead of which one could come to it."""
        # From the last making to the first one: what is found ahead of a making
        # could be come to until then, and by it what it named then.
        found = [[] for _ in range(self._made + 1)]
        found[self._made].extend(list(range(self._first)))
        for number, making in self._let_go.items():
            found[making].append(number)
        until = {}
        for making in reversed(range(self._made + 1)):
            waiting = found[making]
            while waiting:
                one = waiting.pop()
                if one not in until:
                    until[one] = making
                    waiting.extend(named_by(self.web[one]))
                    for other, ceased in self._ceased.get(one, []):
                        found[min(making, ceased)].append(other)
        return until

    def _rounds(self):
        """Rounds of cells that are the same as one another: lists of cells."""
        least = {end: True for end in list(ends_of(self.web).values()) if self.web[end][0] == "same"}
        rounds = []
        for number in least:
            one = self.web[number][1]
            cells = [number]
            while one != number:
                cells.append(one)
                one = self.web[one][1]
            rounds.append(cells)
        return rounds

    def _spans(self):
        """The makings ahead of which a sweep would have kept a cell.

        For each cell but those at first a tuple: the last making ahead of which
        it would not yet have been kept, and the last one ahead of which it would.
        """
        until = self._until()
        found = []
        for number in range(self._first, len(self.web)):
            birth = number - self._first + 1
            found.append((birth, min(until[number], self._same.get(number, self._made))))
        # Of a round, where it has none of those at first, one cell is kept.
        for cells in self._rounds():
            if min(cells) >= self._first:
                found.append((max([self._same[one] for one in cells]), until[cells[0]]))
        return found

    def most_kept(self):
        """The most cells that a sweep ahead of any making would have kept."""
        more = [0] * (self._made + 2)
        for behind, last in self._spans():
            if last > behind:
                more[behind + 1] += 1
                more[last + 1] -= 1
        most = 0
        many = 0
        for change in more:
            many += change
            most = max(most, many)
        return self._first + most

    def least_room(self):
        """The least room in which a store tells that it is full nowhere."""
        return self._first if self._made == 0 else self.most_kept() + 1
