"""Logs: texts of records from which a store comes back after a crash, and the disk that holds them."""

from keptjoined.errors import KeptError, NoLog
from keptjoined.journals import Journal, do_deed
from keptjoined.names import check_number
from keptjoined.store import Store


def record_sum(text):
    """The sum by which a spoilt record is found out."""
    value = 7
    for character in text:
        value = (value * 131 + ord(character)) % 99991
    return value


def record_of(index, words):
    """The record of this index, with the words of its body."""
    body = " ".join(words)
    sum_due = record_sum(f"{index} {body}")
    return f"{index} {sum_due:05d} {body}\n"


def houses_record(journal):
    """Record 0 of a journal."""
    return record_of(0, ["houses"] + journal.houses)


def last_record(journal):
    """The record of the last deed of a journal."""
    return record_of(len(journal), list(journal.deeds[-1]))


def write_log(journal):
    """The log of a journal."""
    records = [record_of(at, list(deed)) for at, deed in enumerate(journal.deeds, start=1)]
    return houses_record(journal) + "".join(records)


def recover(text):
    """The journal of the whole records at the beginning of a text, or None if there is none."""
    # What stands behind the last line feed is a row that is not ended, or nothing.
    rows = text.split("\n")[:-1]
    journal = None if rows == [] else first_record(rows[0])
    if journal is None:
        return None
    for row in rows[1:]:
        grown = next_record(journal, row)
        if grown is None:
            return journal
        journal = grown
    return journal


def first_record(row):
    """The journal without deeds that a row makes, or None if the row is no whole record 0."""
    try:
        journal = Journal(body_of(row)[1:])
    except KeptError:
        return None
    # A row is whole if it is the one that would be written: its form, its order and its sum are compared at once.
    return journal if row + "\n" == houses_record(journal) else None


def next_record(journal, row):
    """The journal that goes on with the deed of a row, or None if the row is not the next whole record."""
    try:
        grown = journal.with_deed(body_of(row))
    except KeptError:
        return None
    return grown if row + "\n" == last_record(grown) else None


def body_of(row):
    """The words of the body of a record."""
    return row.split(" ")[2:]


def mend(text):
    """The longest beginning of a text that consists of whole records."""
    journal = recover(text)
    return "" if journal is None else write_log(journal)


def record_count(text):
    """The number of whole records at the beginning of a text."""
    journal = recover(text)
    return 0 if journal is None else 1 + len(journal)


def journal_of(text):
    """The journal of the whole records at the beginning of a text; NoLog if there is none."""
    journal = recover(text)
    if journal is None:
        raise NoLog()
    return journal


def compact_log(text):
    """The log that does no more than put the lines that stand at the end of a log."""
    return write_log(journal_of(text).settled())


class LoggedStore(Store):
    """A store that keeps a log of its deeds."""

    def __init__(self, houses=()):
        Store.__init__(self, houses)
        # The journal that its log tells; compact makes it shorter, but the lines that stand in the end stay.
        self._logged = Journal(self.houses)

    def put(self, line, a, b):
        """Put a new line in; returns None or the two parts that it joins."""
        self._logged = self._logged.with_deed(("put", line, a, b))
        return super().put(line, a, b)

    def take(self, line):
        """Take a line out; returns None or the two parts into which its part falls."""
        self._logged = self._logged.with_deed(("take", line))
        return super().take(line)

    def log_text(self):
        """The log."""
        return write_log(self._logged)

    def compact(self):
        """Replace the log by one that puts no more than the lines that stand."""
        self._logged = self._logged.settled()

    @classmethod
    def after_crash(cls, text):
        """A store that has done the deeds of the whole records at the beginning of a text, and goes on from there."""
        journal = journal_of(text)
        made = cls(journal.houses)
        for deed in journal.deeds:
            do_deed(made, deed)
        return made


def new_disk(houses=()):
    """The disk with the log of a journal without deeds."""
    return 0, write_log(Journal(houses)), ""


def live_slot(disk):
    """The text of the slot that the pointer names."""
    pointer, first, second = disk
    return first if pointer == 0 else second


def disk_log(disk):
    """The log of a disk."""
    return mend(live_slot(disk))


def apply_write(disk, write):
    """The disk after a write."""
    pointer, first, second = disk
    slots = [first, second]
    slot = write[1]
    if write[0] == "point":
        pointer = slot
    elif write[0] == "empty":
        slots[slot] = ""
    elif write[0] == "trim":
        slots[slot] = slots[slot][:write[2]]
    else:
        slots[slot] = slots[slot] + write[2]
    return pointer, slots[0], slots[1]


def crash_after(disk, writes, count):
    """The disk after so many of the writes."""
    check_number(count, 0, len(writes))
    for write in writes[:count]:
        disk = apply_write(disk, write)
    return disk


def adds_to(slot, text):
    """The writes that append a text to a slot, character by character."""
    return [("add", slot, character) for character in text]


def deed_writes(disk, deed):
    """The writes that add a deed to the log of a disk."""
    slot = disk[0]
    journal = journal_of(live_slot(disk))
    grown = journal.with_deed(deed)
    length = len(write_log(journal))
    trims = [("trim", slot, length)] if len(live_slot(disk)) > length else []
    return trims + adds_to(slot, last_record(grown))


def compact_writes(disk):
    """The writes that replace the log of a disk by the compact one."""
    idle = 1 - disk[0]
    return [("empty", idle)] + adds_to(idle, compact_log(live_slot(disk))) + [("point", idle)]
