"""The links that say which kinds must be reset before which others."""


class Links:
    def __init__(self):
        # By the later kind: the kinds that are linked straight before it.
        self.direct = {}

    def put(self, a, b):
        earlier = self.direct.setdefault(b, {})
        if a in earlier:
            return 0
        earlier[a] = True
        return 1

    def take_away(self, a, b):
        earlier = self.direct.get(b, {})
        if a not in earlier:
            return 0
        earlier.pop(a)
        return 1

    def all_before(self, k):
        found = {}
        waiting = [k]
        while len(waiting) > 0:
            later = waiting.pop()
            for a in self.direct.get(later, {}):
                if a not in found:
                    found[a] = True
                    waiting.append(a)
        return sorted(found)
