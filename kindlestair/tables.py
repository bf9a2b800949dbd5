"""Tables: for papers, what is reached over a source by a spare, with all that the checker asks for."""

from kindlestair.amounts import less, within
from kindlestair.needs import GROUND, Needs
from kindlestair.standings import taken_out


class Table:
    """The entries that were asked for, and all that these ask for in turn; their spares are within `gives`."""

    def __init__(self, web, gives):
        self.known = Needs(web, gives)
        self.entries = {}

    def reached_names(self, spare, over):
        """All that are reached over the source by the spare, rising."""
        others = taken_out(self.known.over[GROUND], over)
        return tuple(sorted([name for name in others if self.known.reaches(name, over, spare)]))

    def asked_by(self, spare, over):
        """The entries, by spare and source, without which that of this spare and source doesn't hold."""
        asked = []
        for name in taken_out(self.known.over[GROUND], over):
            hungers = self.known.hunger_of[name]
            if within(hungers, spare):
                left = less(spare, hungers)
                if not self.known.stands_over(name, over):
                    asked.append((left, over))
                if self.known.left_alone(name, over, spare):
                    asked.append((left, name))
        return asked

    def ask(self, spare, over):
        """Puts in the entry of a spare and a source, and all that it asks for."""
        todo = [(spare, over)]
        while todo:
            asked = todo.pop()
            if asked not in self.entries:
                by, source = asked
                self.entries[asked] = self.reached_names(by, source)
                todo += self.asked_by(by, source)

    def ask_over(self, spare, sources):
        """Puts in all that tells what is reached over several sources, or over none, by a spare."""
        for source in sources or (GROUND,):
            self.ask(spare, source)

    def ask_rest(self, spare, standing):
        """Puts in all that shows a standing, which leaves the spare, to be a rest."""
        for name in standing:
            self.ask_over(spare, taken_out(standing, name))

    def told(self):
        """The table as papers have it."""
        return tuple(sorted([(spare, over, names) for (spare, over), names in self.entries.items()]))
