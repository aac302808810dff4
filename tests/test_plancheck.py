import unittest

from latticeworks.answers import answers
from latticeworks.plancheck import shows_planned
from latticeworks.plans import planned, planned_under
from tests.helper import (BEYOND, STRANGE, SchoolPlan, ask, at, bent, check_refuses_strange, dots, lead, listed, mixed,
                          moved_back, paths, put_at, row_of, rows_of, school_best, school_dot, school_shows_planned,
                          source, strange_thing, tupled, widened, within_bounds, wrong_kinds, wrong_numbers)

SORTS = ("out", "row", "cost", "all", "here")


def small_tasks(seed, trials=40):
    chance = source(seed)
    for trial in range(trials):
        wide = chance.randint(1, 4)
        many = chance.randint(1, 2)
        rows = rows_of(chance, many, wide, chance.choice((1, 2, 3)))
        low = row_of(chance, wide, 3)
        high = tuple(n + chance.randint(0, 3) for n in low)
        inner = tuple(chance.randint(a, b) for a, b in zip(low, high))
        due = dots(rows, inner) if chance.randrange(4) else row_of(chance, many, 4)
        yield row_of(chance, wide, chance.choice((0, 1, 3))), rows, due, low, high
    yield (0, 0), ((0, 0),), (0,), (0, 0), (1, 2)
    yield (1, -1), ((0, 0),), (0,), (0, 0), (2, 2)
    yield (1, 1), ((0, 0),), (0,), (0, 0), (2, -1)
    yield (1, 1), ((2, 4),), (7,), (0, 0), (9, 9)
    yield (1, 1, 1), ((1, 1, 1),), (3,), (0, 0, 0), (2, 2, 2)
    yield (1,), ((1,),), (2,), (0,), (3,)
    yield (1,), ((1,),), (5,), (0,), (3,)


def cases(seed, trials=40, most=60):
    """Tasks and what planned tells of them, where the tree has not too many places."""
    for task in small_tasks(seed, trials):
        told = planned(*task)
        if len(list(paths(told[-1][1]))) <= most:
            yield task, told


def tree_path(told):
    return (len(told) - 1, 1)


def nodes_of(tree, ahead=()):
    """The places of all nodes, with how many steps are taken there and how many times each."""
    yield ahead, ()
    if tree and tree[0] == "all":
        for k, child in enumerate(tree[2]):
            for path, times in nodes_of(child):
                yield ahead + (2, k) + path, (tree[1] + k,) + times


def sorts_in(tree):
    return {at(tree, path)[0] for path, times in nodes_of(tree) if at(tree, path)}


def row_at(told, times):
    row = told[-1][0][1]
    for step, many in zip(told[-1][0][2], times):
        row = tuple(a + many * b for a, b in zip(row, step))
    return row


class Compared(unittest.TestCase):
    def setUp(self):
        self.seen = {True: 0, False: 0}

    def same(self, task, told):
        """The checker tells what the document's words come to."""
        expected = school_shows_planned(task, told)
        self.seen[expected] += 1
        for form in (tupled, listed):
            self.assertIs(shows_planned(*task, form(told)), expected, (task, told))
        return expected

    def wrong(self, task, told):
        self.assertIs(self.same(task, told), False, (task, told))

    def right(self, task, told):
        self.assertIs(self.same(task, told), True, (task, told))


class Told(Compared):
    def test_what_planned_tells(self):
        found = set()
        words = []
        for task in small_tasks(1, 200):
            told = planned(*task)
            words.append(told[0])
            found |= sorts_in(told[-1][1])
            self.assertIs(ask(self, shows_planned, *task, told), True)
            self.right(task, told)
        self.assertEqual(found, set(SORTS))
        self.assertGreater(min(words.count("told"), words.count("none")), 20)

    def test_large_numbers(self):
        chance = source(2)
        for wide in range(1, 9):
            for many in range(1, 9):
                low = row_of(chance, wide, 10 ** 6 - 61)
                high = tuple(n + 60 for n in low)
                rows = rows_of(chance, many, wide, 10 ** 6 - 1)
                due = dots(rows, tuple(chance.randint(a, b) for a, b in zip(low, high)))
                if many < wide - 1:
                    # Few equations leave too many steps for so much room.
                    high = tuple(n + (place % 2) for place, n in enumerate(low))
                    due = dots(rows, high)
                task = (row_of(chance, wide, 10 ** 6 - 1), rows, due, low, high)
                told = planned(*task)
                self.assertEqual(told[0], "told")
                self.right(task, told)
                self.wrong(task, put_at(told, (1,), told[1] + 1))

    def test_what_planned_under_tells(self):
        chance = source(3)
        for task in small_tasks(3, 100):
            costs, rows, most, low, high = task
            told = planned_under(*task)
            wide = widened(task)
            self.assertIs(ask(self, shows_planned, *wide, told), True)
            self.right(wide, told)
            for trial in range(5):
                self.same(wide, bent(chance, told))

    def test_wider_trees(self):
        chance = source(4)
        sorts = set()
        for task in small_tasks(5, 80):
            told = planned(*task)
            if told[-1][0][0] == "none":
                continue
            answer, steps = told[-1][0][1:3]
            best = told[1:3] if told[0] == "told" else None
            school = SchoolPlan(task, steps, best)
            for beyond, late in ((0, 0), (1, 0), (2, 5), (0, 10), (1, 10)):
                tree = school.tree(chance, 0, answer, beyond, late)
                sorts |= sorts_in(tree)
                other = put_at(told, tree_path(told), tree)
                self.assertIs(ask(self, shows_planned, *task, other), True)
                self.right(task, other)
        self.assertEqual(sorts, set(SORTS))

    def test_another_turn_in_the_paper(self):
        chance = source(6)
        moved = 0
        for task, told in cases(6):
            name, *rest = told[-1][0]
            if name == "none" or len(task[0]) == 1 or not rest[1]:
                continue
            moved += 1
            turn = moved_back(rest[2], rest[3], 0, chance.choice((-1, 5)), len(task[0]) - 1)
            self.right(task, put_at(told, (len(told) - 1, 0), (name, rest[0], rest[1]) + turn))
        self.assertGreater(moved, 10)


class Bent(Compared):
    def test_cost_and_plan(self):
        for task, told in cases(7):
            if told[0] != "told":
                continue
            for cost in (told[1] + 1, told[1] - 1, -told[1] - 1, 10 ** 30, None, str(told[1]), (told[1],), bool(told[1])):
                self.wrong(task, put_at(told, (1,), cost))
            for place in range(len(told[2])):
                for more in (1, -1, 10 ** 20):
                    plan = told[2][:place] + (told[2][place] + more,) + told[2][place + 1:]
                    self.wrong(task, put_at(told, (2,), plan))
                    self.wrong(task, put_at(put_at(told, (2,), plan), (1,), school_dot(task[0], plan)))

    def test_other_plans(self):
        chance = source(8)
        others = 0
        for task, told in cases(9, 120):
            if told[0] != "told":
                continue
            costs, rows, due, low, high = task
            for plan in within_bounds(low, high):
                if dots(rows, plan) == due and plan != told[2]:
                    others += 1
                    cost = school_dot(costs, plan)
                    self.assertGreaterEqual((cost, plan), told[1:3])
                    self.wrong(task, ("told", cost, plan, told[3]))
                    self.wrong(task, ("told", told[1], plan, told[3]))
                    self.wrong(task, ("told", cost, told[2], told[3]) if cost != told[1] else told[:3])
                    school = SchoolPlan(task, told[3][0][2], (cost, plan))
                    if not self.has_better(school, told):
                        tree = school.tree(chance, 0, told[3][0][1], 1)
                        self.wrong(task, ("told", cost, plan, (told[3][0], tree)))
        self.assertGreater(others, 100)

    def has_better(self, school, told):
        """Whether the best plan itself would be a node of no sort, so that no tree can be made."""
        return not school.leaves(len(school.steps), told[2])

    def test_none_for_told_and_told_for_none(self):
        for task, told in cases(10, 80):
            costs, rows, due, low, high = task
            if told[0] == "told":
                self.wrong(task, ("none", told[3]))
                self.wrong(task, ("none",) + told[1:])
                self.wrong(task, ("none", (told[3][0], ())))
                self.wrong(task, ("told", told[3]))
            else:
                answer = [told[1][0][1]] if told[1][0][0] == "told" else []
                for plan in [low, high, (0,) * len(low)] + answer:
                    self.wrong(task, ("told", school_dot(costs, plan), plan, told[1]))
                    self.wrong(task, ("told", school_dot(costs, plan), plan, (told[1][0], ("here",))))
                self.wrong(task, ("told",) + told[1:])
            for word in ("", "Told", "NONE", None, True, 1, ("told",), "told "):
                self.wrong(task, (word,) + told[1:])

    def test_no_answer(self):
        task = ((1, 1), ((2, 4),), (7,), (0, 0), (9, 9))
        shown = ("none", ((1, 2),))
        self.right(task, ("none", (shown, ())))
        self.right(task, ("none", (shown, [])))
        self.right(task, ["none", [["none", [[-3, 2]]], []]])
        for tree in (None, "", 0, ("here",), ("cost",), ("out", 0), ("row", 0), ("all", 0, ()), ((),), True):
            self.wrong(task, ("none", (shown, tree)))
        self.wrong(task, ("none", (("none", ((1, 3),)), ())))
        self.wrong(task, ("told", 0, (0, 0), (shown, ())))
        self.wrong(task, ("told", 2, (1, 1), (shown, ("here",))))

    def test_sorts_of_nodes(self):
        for task, told in cases(11, 60):
            if told[-1][0][0] == "none":
                continue
            for path, times in nodes_of(told[-1][1]):
                here = at(told[-1][1], path)
                for node in self.nodes_to_try(task, told, here):
                    self.same(task, put_at(told, tree_path(told) + path, node))
        self.assertGreater(self.seen[True], 100)
        self.assertGreater(self.seen[False], 5000)

    def nodes_to_try(self, task, told, here):
        wide, many = len(task[0]), len(task[1])
        for j in range(-wide - 1, wide + 2):
            yield ("out", j)
        for k in range(-many - 1, many + 2):
            yield ("row", k)
        yield from (("cost",), ("here",), ("all", 0, ()), ("all", 0, (("here",),)), ("all", -1, (("cost",),) * 3), (),
                    ("all", 10 ** 30, ()), ("all", -10 ** 30, ()), ("here", 0), ("cost", 0), ("out",), ("row",),
                    ("out", 0, 0), ("row", 0, ()), ("all", 0), ("all", ()), ("all", 0, (), ()), ("all",), ("HERE",),
                    ("out", None), ("out", "0"), ("out", True), ("out", False), ("row", True), ("row", False),
                    ("row", (0,)), ("none",), (None,), (True,), (0, 0), ("out ", 0), (("cost",),), (("here",), ()))

    def test_each_place_that_a_node_may_name(self):
        # Of each place and each equation the checker says what the words say, at every node.
        places = {True: 0, False: 0}
        for task, told in cases(12, 100):
            if told[-1][0][0] == "none":
                continue
            best = told[1:3] if told[0] == "told" else None
            school = SchoolPlan(task, told[-1][0][2], best)
            for path, times in nodes_of(told[-1][1]):
                row = row_at(told, times)
                leaves = school.leaves(len(times), row)
                tries = [("out", j) for j in range(-2, len(row) + 2)] + [("cost",), ("here",)]
                for node in tries + [("row", k) for k in range(-2, len(task[1]) + 2)]:
                    if best is not None and row == best[1] and node != ("here",):
                        continue
                    if at(told[-1][1], path)[0] == "all" and node not in leaves:
                        self.wrong(task, put_at(told, tree_path(told) + path, node))
                        continue
                    places[node in leaves] += 1
                    self.assertIs(self.same(task, put_at(told, tree_path(told) + path, node)), node in leaves)
        self.assertGreater(min(places.values()), 300)

    def test_firsts_and_children(self):
        for task, told in cases(13, 80):
            for path, times in nodes_of(told[-1][1]):
                node = at(told[-1][1], path)
                if not node or node[0] != "all":
                    continue
                where = tree_path(told) + path
                first, children = node[1:]
                for new in (first + 1, first - 1, first + 10 ** 30, -first - 1):
                    self.wrong(task, put_at(told, where + (1,), new))
                for new in (None, True, False, str(first), (first,), ()):
                    self.wrong(task, put_at(told, where + (1,), new))
                for k in range(len(children)):
                    self.wrong(task, put_at(told, where + (2,), children[:k] + children[k + 1:]))
                    self.same(task, put_at(told, where + (2,), children[:k] + (children[k],) + children[k:]))
                if children:
                    self.wrong(task, put_at(told, where, ("all", first + 1, children[1:])))
                    self.wrong(task, put_at(told, where, ("all", first, children[:-1])))
                    self.wrong(task, put_at(told, where, ("all", first, ())))
                    self.same(task, put_at(told, where, ("all", first, children[::-1])))
                # A further child at either end is right where it says that its number is out.
                place = lead(told[-1][0][2][len(times)])
                out = ("out", place)
                self.right(task, put_at(told, where, ("all", first - 1, (out,) + children)))
                self.right(task, put_at(told, where, ("all", first, children + (out,))))
                self.assertIs(self.same(task, put_at(told, where, ("all", first, (out,) + children))), not children)
                for new in (None, 0, True, "", "ab", (None,), ((),), (0,), ("here",)):
                    self.wrong(task, put_at(told, where + (2,), new))

    def test_where_a_node_with_children_must_begin_and_end(self):
        # The only step is 1 from 0 on, so that its times are the number itself.
        task = ((1,), ((0,),), (0,), (3,), (8,))
        shown = answers(((0,),), (0,))
        self.assertEqual(shown[1:3], ((0,), ((1,),)))

        def node_for(number):
            return ("out", 0) if not 3 <= number <= 8 else ("here",)
        for first in range(-2, 12):
            for many in range(0, 12):
                tree = ("all", first, tuple(node_for(first + k) for k in range(many)))
                expected = first <= 3 and first + many > 8
                self.assertIs(self.same(task, ("told", 3, (3,), (shown, tree))), expected)

    def test_an_end_with_children(self):
        task = ((1,), ((1,),), (2,), (0,), (3,))
        shown = answers(*task[1:3])
        self.right(task, ("told", 2, (2,), (shown, ("here",))))
        for node in (("all", 0, ()), ("all", 0, (("here",),)), ("cost",), ("out", 0), ("row", 0)):
            self.wrong(task, ("told", 2, (2,), (shown, node)))
        task = ((1,), ((1,),), (5,), (0,), (3,))
        shown = answers(*task[1:3])
        self.right(task, ("none", (shown, ("out", 0))))
        for node in (("here",), ("cost",), ("row", 0), ("all", 0, ()), ("out", 1), ("out", -1), ()):
            self.wrong(task, ("none", (shown, node)))

    def test_cost_and_here_where_no_plan_is_told(self):
        tried = 0
        for task, told in cases(14, 120):
            if told[0] == "told" or told[1][0][0] == "none":
                continue
            for path, times in nodes_of(told[1][1]):
                for node in (("cost",), ("here",)):
                    tried += 1
                    self.wrong(task, put_at(told, (1, 1) + path, node))
        self.assertGreater(tried, 40)

    def test_dearer_or_as_dear_and_greater(self):
        # Two free numbers from 0 to 2; the plan is (0, 0) where costs are noughts.
        task = ((0, 0), ((0, 0),), (0,), (0, 0), (2, 2))
        shown = answers(*task[1:3])
        leaf = {node: (shown, ("all", 0, (("all", 0, (("here",), node, node)), node, node)))
                for node in (("cost",), ("here",))}
        self.right(task, ("told", 0, (0, 0), leaf[("cost",)]))
        self.wrong(task, ("told", 0, (0, 0), leaf[("here",)]))
        inner = ("all", 0, (("here",),) * 3)
        self.right(task, ("told", 0, (0, 0), (shown, ("all", 0, (inner,) * 3))))
        # With another plan of the same cost the ones ahead of it are nowhere right.
        for plan in ((0, 1), (1, 0), (2, 2)):
            self.wrong(task, ("told", 0, plan, (shown, ("all", 0, (inner,) * 3))))
        self.wrong(task, ("told", 0, (0, 0), (shown, ("cost",))))
        self.wrong(task, ("told", 0, (0, 0), (shown, ("all", 0, (("cost",),) * 3))))

    def test_papers_of_answers(self):
        for task, told in cases(15, 30):
            where = (len(told) - 1, 0)
            for spoilt in list(wrong_numbers(told[-1][0]))[:60]:
                self.same(task, put_at(told, where, spoilt))
            for spoilt in wrong_kinds(told[-1][0]):
                self.wrong(task, put_at(told, where, spoilt))
            costs, rows, due, low, high = task
            for more in (1, -1, 2):
                other = (costs, rows, (due[0] + more,) + due[1:], low, high)
                self.same(other, told)
                self.same(task, put_at(told, where, answers(rows, other[2])))
            self.wrong(task, put_at(told, where, ()))
            self.wrong(task, put_at(told, where[:1], (told[-1][0],)))
            self.wrong(task, put_at(told, where[:1], told[-1] + ((),)))

    def test_other_tasks(self):
        for task, told in cases(16, 60):
            costs, rows, due, low, high = task
            for k in range(len(costs)):
                for more in (1, -1):
                    def changed(row):
                        return row[:k] + (row[k] + more,) + row[k + 1:]
                    self.same((changed(costs), rows, due, low, high), told)
                    self.same((costs, rows, due, changed(low), high), told)
                    self.same((costs, rows, due, low, changed(high)), told)
        self.assertGreater(min(self.seen.values()), 50)

    def test_another_number_at_each_place(self):
        for task, told in cases(17, 30):
            for spoilt in wrong_numbers(told):
                self.same(task, spoilt)

    def test_bent_by_chance(self):
        chance = source(18)
        for task, told in cases(18, 80, 200):
            for trial in range(40):
                once = bent(chance, told)
                self.same(task, once)
                tree = bent(chance, told[-1][1])
                self.same(task, put_at(told, tree_path(told), tree))
                if isinstance(tree, tuple):
                    self.same(task, put_at(told, tree_path(told), bent(chance, tree)))


class OtherKinds(Compared):
    def test_a_wrong_kind_at_each_place(self):
        for task, told in cases(19, 30):
            for spoilt in wrong_kinds(told):
                self.same(task, spoilt)
            for path in paths(told[-1][1]):
                for thing in (None, True, False, "", "here", "ab", 0, -1, 10 ** 30, (), ((),), ("here", "here")):
                    if at(told[-1][1], path) != thing or thing in (True, False):
                        self.same(task, put_at(told, tree_path(told) + path, thing))

    def test_strange_things(self):
        tasks = [((1, 1), ((1, 1),), (2,), (0, 0), (2, 2)), ((1, 1), ((2, 4),), (7,), (0, 0), (9, 9)),
                 ((1,), ((1,),), (5,), (0,), (3,)), ((0,), ((0,),), (0,), (1,), (1,))]
        for task in tasks:
            told = planned(*task)
            check_refuses_strange(self, lambda thing: shows_planned(*task, thing), 20)
            for path in ((len(told) - 1,), (len(told) - 1, 0), tree_path(told)):
                for thing in STRANGE:
                    if tupled(thing) != at(told, path):
                        self.wrong(task, put_at(told, path, tupled(thing)))
                for thing in BEYOND:
                    self.assertIs(shows_planned(*task, put_at(told, path, thing)), False)

    def test_strange_trees(self):
        chance = source(21)
        for task, told in cases(22, 10):
            for trial in range(60):
                thing = tupled(strange_thing(chance, chance.randrange(12)))
                if thing != at(told, tree_path(told)):
                    self.wrong(task, put_at(told, tree_path(told), thing))

    def test_true_for_one(self):
        task = ((1, 0), ((1, -1),), (0,), (1, 1), (2, 2))
        told = planned(*task)
        self.assertEqual(told[1:3], (1, (1, 1)))
        self.right(task, told)
        for path in ((1,), (2, 0), (2, 1)):
            self.wrong(task, put_at(told, path, True))
        self.assertEqual(told[3][1][:2], ("all", 1))
        self.wrong(task, put_at(told, (3, 1, 1), True))
        task = ((1, 0), ((0, 1),), (5,), (0, 0), (1, 2))
        told = planned(*task)
        self.assertEqual(told[0], "none")
        tree = ("all", 0, (("out", 1), ("out", 1)))
        self.right(task, put_at(told, (1, 1), tree))
        self.wrong(task, put_at(told, (1, 1), put_at(tree, (2, 0, 1), True)))

    def test_things_too_short_and_too_long(self):
        for task, told in cases(23, 40):
            for other in (told[:-1], told + told[-1:], told[:1], (), told + ((),), told[1:], (told,)):
                self.wrong(task, other)

    def test_lists_and_tuples_mixed(self):
        for task, told in cases(24):
            for flip in (False, True):
                handed = [mixed(thing, flip) for thing in task]
                self.assertIs(shows_planned(*handed, mixed(told, flip)), True)


class AgainstTheBest(Compared):
    def test_nothing_but_the_best_is_taken(self):
        # Whatever tree is made for a plan, the checker takes none but for the first plan of least cost.
        chance = source(25)
        for task in small_tasks(26, 60):
            shown = answers(task[1], task[2])
            if shown[0] == "none":
                continue
            best = school_best(task)
            for plan in list(within_bounds(task[3], task[4]))[:40]:
                if dots(task[1], plan) != tuple(task[2]):
                    continue
                claim = (school_dot(task[0], plan), plan)
                school = SchoolPlan(task, shown[2], claim)
                if claim != best and not school.leaves(len(shown[2]), best[1]):
                    # No node stands for the best plan, so the tree says something that isn't so there.
                    told = ("told",) + claim + ((shown, planned(*task)[3][1]),)
                    self.wrong(task, told)
                else:
                    tree = school.tree(chance, 0, shown[1], 0)
                    self.right(task, ("told",) + claim + ((shown, tree),))
                    self.assertEqual(claim, best)


if __name__ == "__main__":
    unittest.main()
