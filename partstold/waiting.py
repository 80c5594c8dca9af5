"""Things that wait for their turn, the least ones first."""


class Waiting:
    """Things that wait, each with a size; those of the least size leave together.

    The sizes are a heap: none is less than the one at half its place. So it takes few steps to find
    the least one, however many there are.
    """

    def __init__(self):
        self.things_of_size = {}
        self.heap = []

    def is_empty(self):
        """Tells whether nothing waits."""
        return len(self.heap) == 0

    def wait(self, size, thing):
        """Lets a thing wait."""
        if size not in self.things_of_size:
            self.things_of_size[size] = []
            self.heap.append(size)
            self.raise_last()
        self.things_of_size[size].append(thing)

    def leave(self):
        """Returns the least size and the list of all things of this size, which wait no longer."""
        size = self.heap[0]
        last = self.heap.pop()
        if len(self.heap) > 0:
            self.heap[0] = last
            self.lower_first()
        return size, self.things_of_size.pop(size)

    def raise_last(self):
        """Puts the last size in its place among those above it."""
        place = len(self.heap) - 1
        size = self.heap[place]
        while place > 0 and self.heap[(place - 1) // 2] > size:
            self.heap[place] = self.heap[(place - 1) // 2]
            place = (place - 1) // 2
        self.heap[place] = size

    def lower_first(self):
        """Puts the first size in its place among those below it."""
        place = 0
        size = self.heap[place]
        below = self.lesser_below(place)
        while below is not None and self.heap[below] < size:
            self.heap[place] = self.heap[below]
            place = below
            below = self.lesser_below(place)
        self.heap[place] = size

    def lesser_below(self, place):
        """Returns the place of the lesser one of the two sizes below a place, None if there is none."""
        left, right = 2 * place + 1, 2 * place + 2
        if left >= len(self.heap):
            return None
        if right < len(self.heap) and self.heap[right] < self.heap[left]:
            return right
        return left
