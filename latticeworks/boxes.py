"""All answers in a box, each number of which has a least and a greatest one; a box is a tuple (low, high)."""

from latticeworks.fractions import part
from latticeworks.near import tree_of
from latticeworks.reach import Reach
from latticeworks.rows import added, dot, product, sum_by
from latticeworks.short import short

# Narrowing a box is a help and no more, so it ends somewhere, even where it could go on for long.
MOST_ROUNDS = 20

# The square of how many points a ball may have, about, ahead of being parted.
MOST_TRIES = 100000


def is_between(row, low, high):
    return all([least <= number <= most for least, number, most in zip(low, row, high)])


def is_empty(box):
    return not is_between(box[0], box[0], box[1])


# The box without what an equation forbids: by how much a product may rise above its least one, or fall below
# its greatest one, is bounded by what all the others can make good.
def squeezed(box, row, due):
    low = []
    high = []
    over = due - sum([min(a * least, a * most) for a, least, most in zip(row, box[0], box[1])])
    under = sum([max(a * least, a * most) for a, least, most in zip(row, box[0], box[1])]) - due
    for a, least, most in zip(row, box[0], box[1]):
        up = over if a > 0 else under
        down = under if a > 0 else over
        low.append(max(least, most - down // abs(a)) if a != 0 else least)
        high.append(min(most, least + up // abs(a)) if a != 0 else most)
    return (low, high)


def narrowed(box, rows, due):
    for k in range(MOST_ROUNDS):
        ahead = box
        for row, number in zip(rows, due):
            box = squeezed(box, row, number)
        if box == ahead or is_empty(box):
            return box
    return box


def halves(box):
    rooms = added(box[1], -1, box[0])
    place = rooms.index(max(rooms))
    middle = (box[0][place] + box[1][place]) // 2
    low = list(box[0])
    high = list(box[1])
    low[place] = middle + 1
    high[place] = middle
    return [(box[0], high), (low, box[1])]


# Numbers by which the sides of a box come to about one length, so that a ball round it isn't much larger. A side
# with room for one number alone is drawn out so far that the ball holds no other.
def stretches(box):
    rooms = added(box[1], -1, box[0])
    widest = max(1, max(rooms))
    return [8 * widest // room if room > 0 else 16 * widest for room in rooms]


def stretched(row, by):
    return [number * stretch for number, stretch in zip(row, by)]


# A stretched box with the ball round it, as a point and a square, and the steps that are short there.
class Ball:
    def __init__(self, answer, steps, box):
        by = stretches(box)
        twice = stretched(added(added(box[0], 1, box[1]), -2, answer), by)
        sides = stretched(added(box[1], -1, box[0]), by)
        told = short([stretched(step, by) for step in steps])
        self.answer = answer
        self.made = product(told[1], steps)
        self.reach = Reach(told[0], [part(number, 2) for number in twice], part(dot(sides, sides), 4))

    def is_small(self):
        room = self.reach.limit - self.reach.outside
        many = 1
        for k in range(len(self.made)):
            many = many * max(1, room // self.reach.cost(k, 0, 1))
        return many <= MOST_TRIES

    def answer_by(self, chosen):
        return tuple(added(self.answer, 1, sum_by(chosen, self.made, len(self.answer))))


# Each answer is kept for one box alone, as boxes don't overlap, though the balls round them do.
def keep_inside(finds, row, box):
    if is_between(row, box[0], box[1]):
        finds.keep(row)


def search_ball(ball, box, finds):
    tree_of(ball.reach, lambda chosen: keep_inside(finds, ball.answer_by(chosen), box))


# Keeps all answers in the box that come of the answer and sums of the steps, at least one. A ball that holds too
# many other points is parted with its box, until the equations or the steps' lengths leave little in it.
def search_box(rows, due, answer, steps, box, finds):
    boxes = [box]
    while len(boxes) > 0:
        own = narrowed(boxes.pop(), rows, due)
        if is_empty(own):
            continue
        ball = Ball(answer, steps, own)
        if ball.is_small():
            search_ball(ball, own, finds)
        else:
            boxes.extend(halves(own))
