"""What can be shown at a rest, if hands rest."""

from lastasked.arrows import backwards, moves_along, with_all_ahead
from lastasked.stands import is_stand
from lastasked.tables import ways_to_all
from lastasked.values import is_ascending, is_row, is_same


class StandsLook:
    """Stands alone, by their numbers, to which moves lead from one of them; these deeds are done there."""

    def __init__(self, course, many, first, hands):
        self.course = course
        self.many = many
        self.first = first
        self.hands = hands

    def beginnings(self):
        """The stand ahead of all moves."""
        return [self.first]

    def nexts(self, stand):
        """(move, stand) for each possible move."""
        found = list(self.course.behind_others(stand).items())
        for move in self.hands:
            behind = self.course.behind_deed(stand, move)
            if self.course.is_let(behind, self.many):
                found.append((move, behind))
        return found


def ends_of(course, stands):
    """{what a rest shows: the level of the stands from which it is come to without deeds} for all of these stands."""
    arrows = backwards({stand: list(course.behind_others(stand).items()) for stand in stands})
    rests = {}
    for stand in stands:
        if is_rest(course, stand):
            alike = rests.setdefault(course.pictures[stand], {})
            alike[stand] = None
    return {shows: with_all_ahead(arrows, rests[shows]) for shows in rests}


def is_rest(course, stand):
    """Whether no task is there."""
    return len(course.stands[stand][3]) == 0


def labels_of(course, ends):
    """The labels of stands of which each leads to rests that show the same."""
    return tuple(sorted([(course.stands[stand], shows) for shows in ends for stand in ends[shows]]))


def are_labels(look, value):
    """Whether any value is labels that fit, of stands that are closed."""
    if not isinstance(value, tuple) or not all([is_row(row, 2) for row in value]):
        return False
    stands = [stand for stand, _ in value]
    if not all([is_stand(look.course.program, stand) for stand in stands]) or not is_ascending(stands):
        return False
    labels = {look.course.number_of(stand): label for stand, label in value}
    return look.first in labels and all([is_label(look, stand, labels) for stand in labels])


def is_label(look, stand, labels):
    """Whether the moves of this stand lead to stands that have labels, and its own label fits to these."""
    if is_rest(look.course, stand) and not is_same(labels[stand], look.course.pictures[stand]):
        return False
    for move, behind in look.nexts(stand):
        if behind not in labels or move[0] != "deed" and not is_same(labels[stand], labels[behind]):
            return False
    return True


def rest_behind(look, stand, value):
    """The rest to which any value leads from this stand, if it is moves that are no deeds; None otherwise."""
    steps = look.course.follow(value, look.many, (stand, look.course.first_plain))
    if steps is None or any([step[0][0] == "deed" for step in steps]):
        return None
    behind = steps[-1][1] if len(steps) > 0 else stand
    return behind if is_rest(look.course, behind) else None


def tell_outlook(look):
    """("sure", labels), or ("open", rows), for a look without deeds."""
    ends = ends_of(look.course, list(ways_to_all(look)))
    if len(ends) == 1:
        return "sure", labels_of(look.course, ends)
    return "open", tuple([(shows, moves_along(ends[shows], look.first)) for shows in things_of(ends)])


def things_of(ends):
    """What can be shown, None ahead of all others."""
    things = [None] if None in ends else []
    return things + sorted([shows for shows in ends if shows is not None])


def is_outlook(look, value):
    """Whether any value is what tell_outlook may tell."""
    if not is_row(value, 2):
        return False
    if value[0] == "sure":
        return are_labels(look, value[1])
    things = things_of(ends_of(look.course, list(ways_to_all(look, limited=False))))
    if value[0] != "open" or len(things) == 1 or not is_row(value[1], len(things)):
        return False
    return all([is_end(look, row, shows) for row, shows in zip(value[1], things)])


def is_end(look, row, shows):
    """Whether any value is what can be shown, and a course that leads there."""
    if not is_row(row, 2) or not is_same(row[0], shows):
        return False
    rest = rest_behind(look, look.first, row[1])
    return rest is not None and look.course.pictures[rest] == shows
