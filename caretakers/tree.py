"""The nodes: caretakers and workers, and what happens to them."""

STARTED = 0
STOPPED = 1
ENDED = 2
FAILED = 3

ALL_FOR_ONE = 1
REST_FOR_ONE = 2

AGAIN_ALWAYS = 0
AGAIN_IF_FAILED = 1


class Node:
    """A caretaker or a worker. Of a worker way, times and span stay 0."""

    def __init__(self, parent, depth, again):
        self.parent = parent
        self.depth = depth
        self.again = again
        self.caretaker = False
        self.way = 0
        self.times = 0
        self.span = 0
        self.up = False
        self.by_hand = False
        self.charges = []
        self.minutes = []

    def is_started_again(self, failed):
        return self.again == AGAIN_ALWAYS or (self.again == AGAIN_IF_FAILED and failed)

    def minutes_lately(self, now):
        return [minute for minute in self.minutes if now < minute + self.span]


class Tree:
    """All nodes by number, and all events as (minute, node, kind)."""

    def __init__(self):
        self.nodes = []
        self.events = []

    def has(self, number):
        return 0 <= number < len(self.nodes)

    def add_node(self, parent, again):
        number = len(self.nodes)
        if number == 0:
            node = Node(number, 1, again)
        else:
            node = Node(parent, self.nodes[parent].depth + 1, again)
            self.nodes[parent].charges.append(number)
        self.nodes.append(node)
        return number

    def make_caretaker(self, number, way, times, span):
        node = self.nodes[number]
        node.caretaker = True
        node.way = way
        node.times = times
        node.span = span

    def with_all_below(self, number):
        """The node and all nodes below it, each ahead of its charges, the charges in order."""
        found = []
        ahead = [number]
        while len(ahead) > 0:
            reached = ahead.pop()
            found.append(reached)
            ahead.extend(list(reversed(self.nodes[reached].charges)))
        return found

    def start(self, number, now):
        if self.nodes[number].up:
            return
        # No node is up below one that is down, so none of these is to be passed over.
        for each in self.with_all_below(number):
            node = self.nodes[each]
            node.up = True
            node.by_hand = False
            node.minutes = []
            self.events.append((now, each, STARTED))

    def stop(self, number, now):
        # Charges go before their caretaker and in the opposite order: just the order of starting turned round.
        for each in reversed(self.with_all_below(number)):
            if self.nodes[each].up:
                self.put_down(each, STOPPED, now)

    def stop_by_hand(self, number, now):
        self.stop(number, now)
        self.nodes[number].by_hand = True

    def go_down(self, number, failed, now):
        self.put_down(number, FAILED if failed else ENDED, now)
        self.see_to(number, failed, now)

    def put_down(self, number, kind, now):
        self.nodes[number].up = False
        self.events.append((now, number, kind))

    def see_to(self, number, failed, now):
        """What comes of it that a node has gone down by itself, up to the first node if need be."""
        while number != 0 and self.nodes[number].is_started_again(failed):
            parent = self.nodes[number].parent
            caretaker = self.nodes[parent]
            lately = caretaker.minutes_lately(now)
            if len(lately) < caretaker.times:
                caretaker.minutes = lately + [now]
                self.start_again(number, now)
                return
            self.stop_each(caretaker.charges, now)
            self.put_down(parent, FAILED, now)
            number = parent
            failed = True

    def stop_each(self, numbers, now):
        for each in reversed(numbers):
            self.stop(each, now)

    def start_again(self, number, now):
        charges = self.nodes[self.nodes[number].parent].charges
        along = self.that_go_along(number)
        self.stop_each(along, now)
        for each in charges:
            if each == number or each in along:
                self.start(each, now)

    def that_go_along(self, number):
        """The charges that are up and, by the caretaker's way, are started again with the node."""
        caretaker = self.nodes[self.nodes[number].parent]
        ups = [each for each in caretaker.charges if self.nodes[each].up]
        if caretaker.way == ALL_FOR_ONE:
            return ups
        if caretaker.way == REST_FOR_ONE:
            return [each for each in ups if each > number]
        return []
