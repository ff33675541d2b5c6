"""The calls on nodes: each takes the desk and the call's numbers, and gives back its answer."""

from caretakers.refusals import NOT_THERE
from caretakers.refusals import NO_PLACE
from caretakers.refusals import OUT_OF_RANGE
from caretakers.refusals import WRONG_PARENT
from caretakers.refusals import WRONG_SORT
from caretakers.refusals import WRONG_STATE
from caretakers.refusals import are_within
from caretakers.refusals import is_within

MOST_NODES = 20
GREATEST_DEPTH = 5
MOST_TOLD = 100
GREATEST_FIRST_TOLD = 1000000

KEEPER_RANGES = ((0, 2), (0, 20), (1, 1000), (0, 2))


def refusal_below(tree, parent):
    """The refusal of a new node with this parent, None if there is none."""
    if len(tree.nodes) == MOST_NODES:
        return NO_PLACE
    if len(tree.nodes) == 0:
        return None if parent == -1 else NOT_THERE
    if not tree.has(parent) or not tree.nodes[parent].caretaker:
        return NOT_THERE
    if tree.nodes[parent].up:
        return WRONG_STATE
    if tree.nodes[parent].depth == GREATEST_DEPTH:
        return WRONG_PARENT
    return None


def keeper_call(desk, numbers):
    parent = numbers[0]
    if not are_within(numbers[1:], KEEPER_RANGES):
        return [OUT_OF_RANGE]
    refusal = refusal_below(desk.tree, parent)
    if refusal is not None:
        return [refusal]
    number = desk.tree.add_node(parent, numbers[4])
    desk.tree.make_caretaker(number, numbers[1], numbers[2], numbers[3])
    return [0, number]


def worker_call(desk, numbers):
    parent = numbers[0]
    if not is_within(numbers[1], 0, 2):
        return [OUT_OF_RANGE]
    refusal = refusal_below(desk.tree, parent)
    if refusal is not None:
        return [refusal]
    if len(desk.tree.nodes) == 0:
        return [WRONG_SORT]
    return [0, desk.tree.add_node(parent, numbers[1])]


def with_events(tree, first):
    """The answer that tells the events from the first given on."""
    events = tree.events[first:]
    answer = [0, len(events)]
    for event in events:
        answer.extend([event[1], event[2]])
    return answer


def boot_call(desk, numbers):
    number = numbers[0]
    tree = desk.tree
    if not tree.has(number):
        return [NOT_THERE]
    if tree.nodes[number].up:
        return [WRONG_STATE]
    if number != 0 and not tree.nodes[tree.nodes[number].parent].up:
        return [WRONG_PARENT]
    before = len(tree.events)
    tree.start(number, desk.now)
    return with_events(tree, before)


def down_call(desk, numbers):
    number = numbers[0]
    tree = desk.tree
    if not tree.has(number):
        return [NOT_THERE]
    if not is_within(numbers[1], 0, 1):
        return [OUT_OF_RANGE]
    if tree.nodes[number].caretaker:
        return [WRONG_SORT]
    if not tree.nodes[number].up:
        return [WRONG_STATE]
    before = len(tree.events)
    tree.go_down(number, numbers[1] == 1, desk.now)
    return with_events(tree, before)


def halt_call(desk, numbers):
    number = numbers[0]
    tree = desk.tree
    if not tree.has(number):
        return [NOT_THERE]
    if not tree.nodes[number].up:
        return [WRONG_STATE]
    before = len(tree.events)
    tree.stop_by_hand(number, desk.now)
    return with_events(tree, before)


def node_call(desk, numbers):
    if not desk.tree.has(numbers[0]):
        return [NOT_THERE]
    node = desk.tree.nodes[numbers[0]]
    answer = [0, node.parent, 1 if node.caretaker else 0, node.way, node.times, node.span, node.again]
    answer.extend([1 if node.up else 0, 1 if node.by_hand else 0])
    answer.extend([len(node.charges)] + node.charges)
    answer.extend([len(node.minutes)] + node.minutes)
    return answer


def log_call(desk, numbers):
    first = numbers[0]
    if not is_within(first, 0, GREATEST_FIRST_TOLD):
        return [OUT_OF_RANGE]
    events = desk.tree.events
    told = events[first:first + MOST_TOLD]
    answer = [0, len(events), len(told)]
    for event in told:
        answer.extend(list(event))
    return answer


def ups_call(desk, numbers):
    ups = [number for number, node in enumerate(desk.tree.nodes) if node.up]
    return [0, len(ups)] + ups


NODE_CALLS = {
    0: keeper_call,
    1: worker_call,
    2: boot_call,
    3: down_call,
    4: halt_call,
    5: node_call,
    6: log_call,
    7: ups_call,
}


def answer_node_call(desk, call, numbers):
    return NODE_CALLS[call](desk, numbers)
