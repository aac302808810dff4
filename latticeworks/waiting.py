"""Things that wait until they are taken, the least one always first."""


# Each thing is not less than the one at half its place (places counted from one), so the least is the first.
class Waiting:
    def __init__(self):
        self.heap = []

    def is_empty(self):
        return len(self.heap) == 0

    def put(self, thing):
        heap = self.heap
        place = len(heap)
        heap.append(thing)
        while place > 0 and thing < heap[(place - 1) // 2]:
            heap[place] = heap[(place - 1) // 2]
            place = (place - 1) // 2
        heap[place] = thing

    def take_least(self):
        heap = self.heap
        least = heap[0]
        last = heap.pop()
        if len(heap) > 0:
            self.sink(last)
        return least

    # Puts the thing where the first one was, or, as long as lesser ones lie below, further down.
    def sink(self, thing):
        heap = self.heap
        place = 0
        below = self.lesser_below(place)
        while below is not None and heap[below] < thing:
            heap[place] = heap[below]
            place = below
            below = self.lesser_below(place)
        heap[place] = thing

    def lesser_below(self, place):
        left = 2 * place + 1
        if left >= len(self.heap):
            return None
        if left + 1 < len(self.heap) and self.heap[left + 1] < self.heap[left]:
            return left + 1
        return left
