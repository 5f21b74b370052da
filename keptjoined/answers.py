"""The answers of commands that ask or change one history."""

from keptjoined.bridges import find_bridges
from keptjoined.tables import is_table, is_within


def told_names(names):
    """Names in a row, or a word that there are none."""
    return " ".join(names) if names != [] else "none"


def told_change(word, change):
    """What became of the parts."""
    if change is None:
        return "ok"
    first, second = change
    return f"{word} {first[0]} {second[0]}"


def yes_or_no(holds):
    """The answer to a question."""
    return "yes" if holds else "no"


def answer_put(history, rest):
    """Put a line."""
    return told_change("joined", history.put(rest[0], rest[1], rest[2]))


def answer_take(history, rest):
    """Take a line."""
    return told_change("parted", history.take(rest[0]))


def answer_joined(history, rest):
    """Whether two houses are joined."""
    return yes_or_no(history.joined(rest[0], rest[1]))


def answer_way(history, rest):
    """The lines of the way between two houses."""
    way = history.way(rest[0], rest[1])
    if way == []:
        return "here"
    return told_names([] if way is None else [step[0] for step in way])


def answer_part(history, rest):
    """The houses of a part."""
    return told_names(history.part_of(rest[0]))


def answer_size(history, rest):
    """The number of houses of a part."""
    return str(history.size_of(rest[0]))


def answer_parts(history, _):
    """All parts."""
    parts = history.parts()
    return " / ".join([told_names(part) for part in parts]) if parts != [] else "none"


def answer_count(history, _):
    """The number of parts."""
    return str(history.part_count())


def answer_bridges(history, _):
    """The bridges."""
    return told_names(find_bridges(history.web()))


def answer_level(history, rest):
    """The level of a line."""
    return str(history.level_of(rest[0]))


def answer_undo(history, rest):
    """Undo deeds."""
    history.undo(rest[0])
    return "ok"


def answer_redo(history, rest):
    """Do deeds again."""
    history.redo(rest[0])
    return "ok"


def answer_mark(history, rest):
    """Make a version."""
    history.name_version(rest[0])
    return "ok"


def answer_back(history, rest):
    """Go back to a version."""
    history.back_to(rest[0])
    return "ok"


def answer_compare(history, rest):
    """How much differs between two versions."""
    return " ".join([str(len(found)) for found in history.compare(rest[0], rest[1])])


def answer_check(history, _):
    """Whether the levels and the counts are as they must be."""
    houses = history.houses
    sound = is_table(houses, history.table()) and is_within(len(houses), history.counts())
    return "sound" if sound else "broken"


ANSWERS = {
    "put": answer_put, "take": answer_take, "joined": answer_joined, "way": answer_way, "part": answer_part,
    "size": answer_size, "parts": answer_parts, "count": answer_count, "bridges": answer_bridges, "level": answer_level,
    "undo": answer_undo, "redo": answer_redo, "mark": answer_mark, "back": answer_back, "compare": answer_compare,
    "check": answer_check,
}
