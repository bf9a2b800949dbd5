"""Papers for the checker's tests, made without the package's own ways."""

import plain


def less(spare, hungers):
    return tuple([many - hunger for many, hunger in zip(spare, hungers)])


class Table:
    """The entries that are asked for, and all that these ask for in turn."""

    def __init__(self, hearths):
        self.hearths = hearths
        self.entries = {}

    def names(self, spare, over):
        if (spare, over) not in self.entries:
            found = set()
            for name, hungers, feeders in self.hearths:
                left = less(spare, hungers)
                if name == over or min(left) < 0:
                    continue
                near = not feeders or over in feeders
                if near or set(self.names(left, over)) & set(feeders):
                    found |= {name, *self.names(left, name)}
            self.entries[spare, over] = tuple(sorted(found - {over}))
        return self.entries[spare, over]

    def told(self):
        return tuple(sorted([(spare, over, names) for (spare, over), names in self.entries.items()]))

    def ask_over(self, spare, sources):
        for source in sources or ("",):
            self.names(spare, source)

    def ask_rest(self, gives, standing):
        """Asks for all by which a standing is shown to be a rest."""
        spare = less(gives, plain.drawn(self.hearths, standing, len(gives)))
        for name in standing:
            self.ask_over(spare, [other for other in standing if other != name])
        return spare


def row_between(hearths, gives, one, other):
    """A shortest row from one standing to the other, None where there is none."""
    start, end = frozenset(one), frozenset(other)
    names = {hearth[0] for hearth in hearths}
    rows, todo = {start: ()}, [start]
    for burning in todo:
        for then in plain.one_switch(hearths, burning, names):
            if then not in rows and plain.fits(hearths, then, gives):
                (name,) = then ^ burning
                rows[then] = rows[burning] + (("kindle" if name in then else "out", name),)
                todo.append(then)
    return rows.get(end)


def rest_of(hearths, gives, standing):
    """What burns in all standings to which this one leads."""
    return plain.rising(frozenset.intersection(*plain.led_to(hearths, gives, standing)))


def paper_rest(hearths, gives, one):
    """A paper of never and of stays."""
    left, table = rest_of(hearths, gives, one), Table(hearths)
    table.ask_over(table.ask_rest(gives, left), left)
    return row_between(hearths, gives, one, left), left, table.told()


def paper_apart(hearths, gives, one, other):
    left, stay = rest_of(hearths, gives, one), rest_of(hearths, gives, other)
    table = Table(hearths)
    table.ask_rest(gives, left)
    table.ask_rest(gives, stay)
    return (row_between(hearths, gives, one, left), left, row_between(hearths, gives, other, stay), stay, table.told())


def one_less(gives, store):
    return gives[:store] + (gives[store] - 1,) + gives[store + 1:]


def paper_least(hearths, gives, one, other, store):
    """A paper of least, with None where by one less one of both is no standing."""
    fewer = one_less(gives, store)
    row = row_between(hearths, gives, one, other)
    if fewer[store] < 0 or not (plain.fits(hearths, one, fewer) and plain.fits(hearths, other, fewer)):
        return row, None
    return row, paper_apart(hearths, fewer, one, other)
