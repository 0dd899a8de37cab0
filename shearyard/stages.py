"""Stages of a case: what is known behind some number of facts."""

from shearyard.lots import all_of, everything


class Stage:
    """The facts told so far, as tuples of a word and of what it is told about, and the choices that they leave.

    `mentioned` are the known names in the order in which they were first mentioned. `looks` holds for each name the
    readers of its pictures, `outs` the names that came out of it, and `sources` the name that it came out of.
    """

    def __init__(self, bed, facts, texts):
        self.told = facts
        self.texts = texts
        self.everything = everything(bed)
        self.mentioned = {}
        self.looks = {}
        self.outs = {}
        self.sources = {}
        self.stops = {}
        self.choices_left = []
        self.known = {}
        for fact in facts:
            self.enter(fact)

    def enter(self, fact):
        """Take up a fact."""
        if fact[0] == "looked":
            self.looks.setdefault(fact[1], []).append(fact[2])
        elif fact[0] == "went":
            self.outs.setdefault(fact[1], []).append(fact[2])
            self.sources[fact[2]] = fact[1]
        elif fact[0] == "refused":
            self.stops[fact[1]] = True
        for name in names_in(fact):
            self.mentioned[name] = True

    def root_of(self, name):
        """The name from which the name came out through any number of others, or the name itself."""
        while name in self.sources:
            name = self.sources[name]
        return name

    def looked_reader(self, name):
        """The canonical reader of the plants that fit all pictures of the name; raises TooMany."""
        if name not in self.known:
            reader = self.everything
            for look in self.looks.get(name, []):
                reader = all_of(reader, look)
            self.known[name] = reader
        return self.known[name]

    def reader_of(self, ground, name, asked):
        """The canonical reader of the plants of the name on this ground; raises TooMany.

        `asked` is a pair of a name and one more reader for this name. There are few names, so that they may be
        followed through calls within calls.
        """
        reader = self.looked_reader(name)
        if name in self.stops:
            reader = all_of(reader, ground.stopped())
        for other in self.outs.get(name, []):
            reader = all_of(reader, ground.behind(self.reader_of(ground, other, asked)))
        return all_of(reader, asked[1]) if name == asked[0] else reader

    def is_open(self, ground, name, asked):
        """Whether there is a plant for each name that is tied to this one by facts; raises TooMany."""
        return len(self.reader_of(ground, self.root_of(name), asked).marks) > 0


def names_in(fact):
    """The names that a fact mentions, in order."""
    if fact[0] == "always":
        return ()
    return fact[1:] if fact[0] == "went" else fact[1:2]
