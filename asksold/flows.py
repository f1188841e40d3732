"""Flows through the net of an ask.

The arcs that stand for looks have their prices as room. Each path from the source to the sink runs over the looks of
a thread, and each thread contains the looks of a path. So the looks that settle the ask are those that cut all paths,
a least cut costs the price, and the paths of a greatest flow make a load.
"""

from asksold.asks import in_columns_order, links_of, stops_of

SOURCE = "source"
SINK = "sink"
# More than all prices together, so that no least cut contains an arc with this room.
ENDLESS = 1000000000


class Net:
    """Nodes and arcs with room for a flow from the source to the sink; arc + 1 is the opposite of an even arc."""

    def __init__(self):
        self._heads = []
        self._rooms = []
        self._arcs = {SOURCE: [], SINK: []}
        self._looks = {}
        self._arc_of = {}

    def lay(self, tail, head, room):
        """Lay an arc with this room, and return it."""
        arc = len(self._heads)
        self._heads.extend([head, tail])
        self._rooms.extend([room, 0])
        self._arcs.setdefault(tail, []).append(arc)
        self._arcs.setdefault(head, []).append(arc + 1)
        return arc

    def lay_look(self, tail, head, look, room):
        """Lay the arc of a look, with endless room for None."""
        arc = self.lay(tail, head, ENDLESS if room is None else room)
        self._looks[arc] = look
        self._arc_of[look] = arc

    def reached(self, starts):
        """Return a dict from each node that arcs with room lead to from the starts to the last of these arcs."""
        last_arcs = {node: None for node in starts}
        waiting = list(starts)
        while waiting:
            further = []
            for node in waiting:
                for arc in self._arcs[node]:
                    head = self._heads[arc]
                    if self._rooms[arc] > 0 and head not in last_arcs:
                        last_arcs[head] = arc
                        further.append(head)
            waiting = further
        return last_arcs

    def push(self, last_arcs):
        """Push as much flow as possible along the path to the sink that these arcs make."""
        path = []
        arc = last_arcs[SINK]
        while arc is not None:
            path.append(arc)
            arc = last_arcs[self._heads[arc ^ 1]]
        room = min([self._rooms[arc] for arc in path])
        for arc in path:
            self._rooms[arc] -= room
            self._rooms[arc ^ 1] += room

    def fill(self):
        """Make the flow a greatest one; there must be no path of arcs with endless room."""
        last_arcs = self.reached([SOURCE])
        while SINK in last_arcs:
            self.push(last_arcs)
            last_arcs = self.reached([SOURCE])

    def flow(self):
        """Return how much flows from the source to the sink."""
        return sum([self._rooms[arc + 1] for arc in self._arcs[SOURCE]])

    def paths(self):
        """Return the list of pairs (looks, number): paths by their looks, and how much flows along each."""
        flows = {arc: self._rooms[arc + 1] for arc in range(0, len(self._heads), 2)}
        found = []
        path = self.path_of(flows)
        while path:
            number = min([flows[arc] for arc in path])
            for arc in path:
                flows[arc] -= number
            found.append(([self._looks[arc] for arc in path if arc in self._looks], number))
            path = self.path_of(flows)
        return found

    def path_of(self, flows):
        """Return the list of the arcs of a path on which something flows, an empty one if nothing flows."""
        path = []
        node = SOURCE
        while node != SINK:
            filled = [arc for arc in self._arcs[node] if flows.get(arc, 0) > 0]
            if not filled:
                return []
            path.append(filled[0])
            node = self._heads[filled[0]]
        return path

    def some_cut_has(self, looks):
        """Return whether some least cut contains all these looks, none of which may cost 0 or be endless."""
        arcs = [self._arc_of.get(look) for look in looks]
        if None in arcs:
            return False
        tails = [self._heads[arc + 1] for arc in arcs]
        heads = [self._heads[arc] for arc in arcs]
        near = self.reached([SOURCE, *tails])
        return not any([node in near for node in [SINK, *heads]])

    def each_cut_has(self, look):
        """Return whether each least cut contains this look, which may not cost 0 or be endless."""
        if look not in self._arc_of:
            return False
        arc = self._arc_of[look]
        return self._heads[arc + 1] in self.reached([SOURCE]) and SINK in self.reached([self._heads[arc]])


class AskNet(Net):
    """The net of an ask, filled with a greatest flow.

    Each value of a stop has the nodes "ENTER" and "LEAVE", with its ones between them, "BEFORE" ahead of the look
    from the link before it, and "AFTER" behind the look from the link after it. A value of a row in the answer ends
    the paths that enter and begins the paths that leave, since a row of the answer leads there and on from there.
    """

    def __init__(self, ask, lots, kept, present, rooms):
        Net.__init__(self)
        self._ask = ask
        self._lots = lots
        self._kept = kept
        self._present = present
        self._rooms_of_looks = rooms
        for at, lot in enumerate(lots):
            for value in lot:
                self.lay_value(at, value)
        for at, link in enumerate(links_of(ask)):
            self.lay_link(at, link)
        self.fill()

    def lay_value(self, at, value):
        """Lay the arcs of a value of a stop."""
        enter = (at, value, "ENTER")
        leave = (at, value, "LEAVE")
        if (at, value) in self._kept:
            self.lay(SOURCE, leave, ENDLESS)
            self.lay(enter, SINK, ENDLESS)
            self.lay_ones_of_answer(at, value)
            return
        if at == 0:
            self.lay(SOURCE, enter, ENDLESS)
        if at == len(self._lots) - 1:
            self.lay(leave, SINK, ENDLESS)
        self.lay(self.lay_absent_ones(at, value, enter), leave, ENDLESS)

    def lay_ones_of_answer(self, at, value):
        """Lay the path of the present thread of each of the stop's ones."""
        for name in stops_of(self._ask)[at][2]:
            look = (name, 0, value)
            self.lay_look(SOURCE, SINK, look, self._rooms_of_looks[look])

    def lay_absent_ones(self, at, value, node):
        """Lay one behind the other, from a node on, the looks at those of the stop's ones that are absent."""
        for name in stops_of(self._ask)[at][2]:
            look = (name, 0, value)
            if (name, (value,)) not in self._present:
                self.lay_look(node, look, look, self._rooms_of_looks[look])
                node = look
        return node

    def lay_link(self, at, link):
        """Lay the arcs of the link behind a stop."""
        table, way = link
        for value in self._lots[at]:
            look = (table, way, value)
            self.lay_look((at, value, "LEAVE"), (at, value, "AFTER"), look, self._rooms_of_looks[look])
        for value in self._lots[at + 1]:
            look = (table, 1 - way, value)
            self.lay_look((at + 1, value, "BEFORE"), (at + 1, value, "ENTER"), look, self._rooms_of_looks[look])
        for before in self._lots[at]:
            for after in self._lots[at + 1]:
                self.lay_fact(at, (table, in_columns_order(way, before, after)), before, after)

    def lay_fact(self, at, fact, before, after):
        """Lay the arc of a fact of the link behind a stop: over its two looks, or past them if no thread has them."""
        is_told = (at, before) in self._kept and (at + 1, after) in self._kept
        if is_told or fact not in self._present:
            self.lay((at, before, "AFTER"), (at + 1, after, "BEFORE"), ENDLESS)
        else:
            self.lay((at, before, "LEAVE"), (at + 1, after, "ENTER"), ENDLESS)
