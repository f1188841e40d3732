"""Joint: the least price of several questions at once, and a tree that shows that nothing cheaper settles them.

Sets of the looks that cost more than 0 are written as masks: bit k stands for the look k in ascending order.
"""

from asksold.asks import (
    MOST_ROWS, is_ask, lots_of, present_facts, product_of_sizes, rows_with_facts, tables_of, threads_with_looks,
)
from asksold.errors import BadAsk, TooMany
from asksold.plans import all_looks, is_below, is_list, is_number
from asksold.prices import check_prices, is_thread
from asksold.webs import is_web, web_lots, web_rows_with_facts

MOST_QUESTIONS = 4
MOST_DEAR = 12
DEAR = ("dear",)


def question_lots(plan, question):
    """Return, place by place, the list of the values that the rows of an ask or a web have there."""
    return lots_of(plan, question) if is_ask(plan, question) else web_lots(plan, question)


def question_rows(plan, question):
    """Return the list of the pairs (row, its facts) of an ask or a web."""
    return rows_with_facts(plan, question) if is_ask(plan, question) else web_rows_with_facts(plan, question)


def question_tables(plan, question):
    """Return the list of the names of the tables of an ask or a web."""
    return tables_of(question) if is_ask(plan, question) else [table for table, marks in question]


def check_questions(plan, thing):
    """Raise BadAsk for any value that is not a list of 1 to 4 asks and webs, and TooMany for one with too many rows."""
    if not is_list(thing) or not 1 <= len(thing) <= MOST_QUESTIONS:
        raise BadAsk("not a list of 1 to 4 questions")
    for question in thing:
        if not is_ask(plan, question) and not is_web(plan, question):
            raise BadAsk("neither an ask nor a web of the plan")
    for question in thing:
        if product_of_sizes(question_lots(plan, question)) > MOST_ROWS:
            raise TooMany(MOST_ROWS)


class Question:
    """The lots of an ask or a web at a store, and a dict from its threads, ascending, to their looks."""

    def __init__(self, store, thing):
        self.lots = question_lots(store.plan, thing)
        pairs = question_rows(store.plan, thing)
        self.looks_of = {thread: looks for thread, looks in threads_with_looks(pairs, present_facts(store))}


class Joint:
    """Questions at a store with prices: the looks that cost nothing, and those that cost more."""

    def __init__(self, store, prices, questions):
        check_prices(store.plan, prices)
        check_questions(store.plan, questions)
        tables = [name for question in questions for name in question_tables(store.plan, question)]
        sold = [look for look in all_looks(store.plan) if look[0] in tables and look in prices]
        self.free = {look: True for look in sold if prices[look] == 0}
        self.dear = [look for look in sold if prices[look] > 0]
        if len(self.dear) > MOST_DEAR:
            raise TooMany(MOST_DEAR)
        self.costs = [prices[look] for look in self.dear]
        self.bits = {look: 1 << at for at, look in enumerate(self.dear)}
        self.asked = [Question(store, question) for question in questions]

    def mask_of(self, looks):
        """Return the mask of those of the looks that cost more than 0; None if one of them costs nothing."""
        if any([look in self.free for look in looks]):
            return None
        return sum([self.bits.get(look, 0) for look in looks])

    def places(self, mask):
        """Return the ascending list of the indexes of the looks in a mask."""
        return [at for at in range(len(self.dear)) if (mask >> at) & 1]

    def cost(self, mask):
        """Return what the looks in a mask cost together."""
        return sum([self.costs[at] for at in self.places(mask)])

    def bought(self, mask):
        """Return the ascending tuple of the looks in a mask and of those that cost nothing."""
        return tuple(sorted([*list(self.free), *[self.dear[at] for at in self.places(mask)]]))

    def open_threads(self):
        """Return a dict from each mask of a thread without a look for 0 to the first (index of a question, thread)."""
        found = {}
        for index, question in enumerate(self.asked):
            for thread, looks in question.looks_of.items():
                mask = self.mask_of(looks)
                if mask is not None:
                    found.setdefault(mask, (index, thread))
        return found

    def needed_masks(self):
        """Return a list that tells, at each mask as its index, whether some thread has no other looks than these."""
        many = 1 << len(self.dear)
        masks = self.open_threads()
        found = [mask in masks for mask in range(many)]
        for bit in self.bits.values():
            for mask in range(many):
                if mask & bit and found[mask ^ bit]:
                    found[mask] = True
        return found

    def cheapest_mask(self):
        """Return the mask of the looks that cost the joint price, the least list in order, or None."""
        needed = self.needed_masks()
        best = None
        for mask in range(len(needed)):
            # Looks settle all questions unless some thread has only looks among those that are left over.
            if not needed[len(needed) - 1 - mask]:
                found = (self.cost(mask), self.places(mask), mask)
                if best is None or found < best:
                    best = found
        return None if best is None else best[2]


class Tree:
    """A tree that shows that no looks that settle the questions cost less than a number; it must be true."""

    def __init__(self, joint, number):
        self._joint = joint
        self._number = number
        self._threads = joint.open_threads()
        self.nodes = []
        self.grow(0, 0)

    def grow(self, bought, refused):
        """Append the node for these bought and refused looks, and all nodes below it; return its index."""
        index = len(self.nodes)
        self.nodes.append(DEAR)
        if self._joint.cost(bought) < self._number:
            mask = self.narrowest(bought, refused)
            children = []
            for at in self._joint.places(mask & ~refused):
                children.append(self.grow(bought | (1 << at), refused))
                refused = refused | (1 << at)
            self.nodes[index] = (*self._threads[mask], tuple(children))
        return index

    def narrowest(self, bought, refused):
        """Return the mask of a thread without bought looks that has the fewest looks which are not refused."""
        masks = [mask for mask in self._threads if not mask & bought]
        return min(masks, key=lambda mask: len(self._joint.places(mask & ~refused)))


def joint_price(store, prices, questions):
    """Return the joint price and the ascending tuple of looks that settle the questions for it, or None."""
    joint = Joint(store, prices, questions)
    mask = joint.cheapest_mask()
    if mask is None:
        return None
    return joint.cost(mask), joint.bought(mask)


def joint_tree(store, prices, questions):
    """Return a tree for the joint price, or, if there is none, for one more than the sum of all prices."""
    joint = Joint(store, prices, questions)
    mask = joint.cheapest_mask()
    number = sum(prices.values()) + 1 if mask is None else joint.cost(mask)
    return tuple(Tree(joint, number).nodes)


def thread_mask(plan, joint, node):
    """Return the mask of a node's thread, None if the node does not have its form or its thread has a look for 0."""
    if not isinstance(node, tuple) or len(node) != 3 or not is_below(node[0], len(joint.asked)):
        return None
    question = joint.asked[node[0]]
    if not is_thread(plan, question.lots, node[1]) or node[1] not in question.looks_of:
        return None
    return joint.mask_of(question.looks_of[node[1]])


def are_children(thing, many, known):
    """Return whether any value is a tuple of distinct indexes below many, none of them known."""
    if not isinstance(thing, tuple) or not all([is_below(child, many) for child in thing]):
        return False
    return len({child for child in thing}) == len(thing) and not any([child in known for child in thing])


def is_joint_tree(store, prices, questions, number, thing):
    """Return whether any value is a tree for the number."""
    joint = Joint(store, prices, questions)
    if not is_number(number) or not isinstance(thing, tuple) or len(thing) == 0:
        return False
    # What is bought and refused at each node that is known to be a child. All nodes up to the one that is looked at
    # are known, so that a node is a child but once, and of a node before it.
    known = {0: (0, 0)}
    for at, node in enumerate(thing):
        if at not in known:
            return False
        bought, refused = known[at]
        if node == DEAR:
            if joint.cost(bought) < number:
                return False
            continue
        mask = thread_mask(store.plan, joint, node)
        if mask is None or mask & bought or not are_children(node[2], len(thing), known):
            return False
        places = joint.places(mask & ~refused)
        if len(places) != len(node[2]):
            return False
        for place, child in zip(places, node[2]):
            known[child] = (bought | (1 << place), refused)
            refused = refused | (1 << place)
    return True
