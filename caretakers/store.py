"""The store: answers that are kept, works under way, and faults in a row."""

FRESH = 1
UNDER_WAY = 2
NOT_TRIED = 3
BEGUN = 4


class Answer:
    def __init__(self, key, value, since):
        self.key = key
        self.value = value
        self.since = since


class Work:
    def __init__(self, key, since):
        self.key = key
        self.since = since
        self.waiting = []
        self.will_be_kept = True


class Store:
    """Answers stand in their order, works in the order in which they began."""

    def __init__(self):
        self.room = 4
        self.age = 0
        self.limit = 0
        self.base = 1
        self.most = 1
        self.answers = []
        self.works = []
        self.faults = {}
        self.untried_till = {}
        self.asked = 0
        # Of all asks, those that came to a fresh answer, and those that began a work.
        self.asked_fresh = 0
        self.asked_anew = 0

    def settle(self, room, age, limit, base, most):
        self.room = room
        self.age = age
        self.limit = limit
        self.base = base
        self.most = most
        self.drop_beyond_room()

    def drop_beyond_room(self):
        self.answers = self.answers[:self.room]

    def drop(self, key):
        self.answers = [answer for answer in self.answers if answer.key != key]

    def put_first(self, answer):
        self.drop(answer.key)
        self.answers.insert(0, answer)
        self.drop_beyond_room()

    def is_fresh(self, answer, now):
        return self.age == 0 or now < answer.since + self.age

    def fresh_answer(self, key, now):
        for answer in self.answers:
            if answer.key == key and self.is_fresh(answer, now):
                return answer
        return None

    def work_of(self, key):
        for work in self.works:
            if work.key == key:
                return work
        return None

    def work_awaited_by(self, ask):
        for work in self.works:
            if ask in work.waiting:
                return work
        return None

    def faults_of(self, key):
        return self.faults.get(key, 0)

    def minute_of(self, key):
        """Till when nothing is tried of the key."""
        return self.untried_till.get(key, 0)

    def end_work(self, work):
        # A key has one work under way at most.
        self.works = [other for other in self.works if other.key != work.key]

    def ask(self, key, now):
        """The ask's number, what it comes to, and what is told with it."""
        number = self.asked
        self.asked += 1
        answer = self.fresh_answer(key, now)
        if answer is not None:
            self.asked_fresh += 1
            self.put_first(answer)
            return [number, FRESH, answer.value]
        work = self.work_of(key)
        if work is not None:
            work.waiting.append(number)
            return [number, UNDER_WAY, work.since]
        till = self.minute_of(key)
        if now < till:
            return [number, NOT_TRIED, till]
        self.asked_anew += 1
        self.begin_work(key, number, now)
        return [number, BEGUN, now]

    def begin_work(self, key, number, now):
        self.drop(key)
        work = Work(key, now)
        work.waiting.append(number)
        self.works.append(work)

    def finish(self, work, value, now):
        self.end_work(work)
        if work.will_be_kept:
            self.put_first(Answer(work.key, value, now))
        self.faults[work.key] = 0
        self.untried_till[work.key] = 0

    def fail(self, work, now):
        self.end_work(work)
        faults = self.faults_of(work.key) + 1
        self.faults[work.key] = faults
        self.untried_till[work.key] = 0
        if 0 < self.limit <= faults:
            self.untried_till[work.key] = now + self.pause_after(faults)

    def pause_after(self, faults):
        pause = self.base
        for fault in range(self.limit, faults):
            pause = pause * 2
        return min(self.most, pause)

    def leave(self, work, ask):
        """Whether the work is given up, as nobody waits for it any more."""
        work.waiting.remove(ask)
        if len(work.waiting) > 0:
            return False
        self.end_work(work)
        return True

    def forget(self, key):
        self.drop(key)
        work = self.work_of(key)
        if work is not None:
            work.will_be_kept = False
