"""Gates: which tries are let through, and the crowd of some minutes. Minutes never fall."""


def let_through(times, span, minutes):
    """The tries let through, so many times at most in any stretch."""
    through = []
    for minute in minutes:
        lately = [each for each in through if minute < each + span]
        if len(lately) < times:
            through.append(minute)
    return through


def let_through_by_bucket(room, every, minutes):
    through = []
    parts = room * every
    # The bucket is full up to the first try, so the minutes before that one bring nothing.
    before = 0
    for minute in minutes:
        parts = min(room * every, parts + minute - before)
        before = minute
        if parts >= every:
            parts -= every
            through.append(minute)
    return through


def number_from(start, span, minutes):
    return len([each for each in minutes if start <= each < start + span])


def crowd_of(span, minutes):
    return max([number_from(start, span, minutes) for start in minutes], default=0)


def first_let_through(times, span, least, minutes):
    """The first minute from the least on at which a try is let through behind all these, -1 if there is none."""
    if times == 0:
        return -1
    if len(minutes) < times:
        return least
    # The last so many are too many till the first of these is lately no more.
    return max(least, minutes[len(minutes) - times] + span)


def most_let_through(times, span, minutes):
    # The gate lets through as many as any way whose crowd is no greater: its first, second, third .. try let
    # through comes no later in the list than the first, second, third .. of the other way.
    return len(let_through(times, span, minutes))
