"""Ways of letting go: what a room holds while keys are asked for one after another."""


def with_last_use(held, key):
    """What is held by last use behind a request, the key asked for last first."""
    return [key] + [each for each in held if each != key]


def held_by_last_use(room, keys):
    held = []
    for key in keys:
        held = with_last_use(held, key)[:room]
    return held


def misses_by_last_use(room, keys):
    held = []
    misses = 0
    for key in keys:
        if key not in held:
            misses += 1
        held = with_last_use(held, key)[:room]
    return misses


def misses_in_turn(room, keys):
    held = []
    misses = 0
    for key in keys:
        if key not in held:
            misses += 1
            held = ([key] + held)[:room]
    return misses


def places_asked_again(keys):
    """For each request the place at which its key is asked for again; behind all if it never is."""
    last = {}
    places = []
    for place in range(len(keys) - 1, -1, -1):
        places.insert(0, last.get(keys[place], len(keys)))
        last[keys[place]] = place
    return places


def misses_by_best_way(room, keys):
    # By each key that is held: the place at which it is asked for again.
    held = {}
    misses = 0
    for key, again in zip(keys, places_asked_again(keys)):
        if key not in held:
            misses += 1
            if len(held) == room:
                held.pop(asked_again_last(held))
        held[key] = again
    return misses


def asked_again_last(held):
    """The key whose place is the last; of equal ones the least key."""
    return max(sorted(held), key=lambda each: held[each])


def fewest_misses(room, keys):
    # No way has fewer misses than the best way: where another lets go a key that is asked for again sooner, to let
    # go the one that is asked for again last in its place costs no more misses.
    return misses_by_best_way(room, keys)


def depths_of(keys):
    """For each request how many other keys were asked for since its key was, -1 if it wasn't asked for before."""
    asked = []
    depths = []
    for key in keys:
        depths.append(asked.index(key) if key in asked else -1)
        asked = with_last_use(asked, key)
    return depths
