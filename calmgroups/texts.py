"""Texts of wishes, as str writes them, read back."""

from calmgroups.errors import InvalidText
from calmgroups.groups import MOST_GROUPS, MOST_MEMBERS, Collection, in_plain_order, is_group
from calmgroups.wishes import Wishes

# Other scripts have figures that count as digits elsewhere; only these are members here.
FIGURES = "012345"


def read_wishes(text):
    """The wishes in plain form whose text this is."""
    lines = text.split("\n")
    bound = min(len(lines), MOST_MEMBERS)
    rows = []
    begin = 0
    for line in lines:
        row = _read_line(line, len(rows), bound)
        if row is None or not _may_follow(row, rows):
            raise InvalidText(text, begin)
        rows = rows + [row]
        begin = begin + len(line) + 1
    return _wishes_of(rows)


def _read_line(line, member, bound):
    """The rank of each group of the member's line, by group; None if it is not of the form."""
    # A seventh line needs no look of its own: no group that may be written has its member.
    head = f"{member}: "
    if not line.startswith(head):
        return None
    row = {}
    for rank, step in enumerate(line[len(head):].split(" > ")):
        groups = [_read_group(word, bound) for word in step.split(" = ")]
        if in_plain_order(groups) != groups:
            return None
        for group in groups:
            if member not in group or group in row:
                return None
            row[group] = rank
    return row


def _read_group(word, bound):
    """The group that is written so, () if this is none."""
    group = tuple([FIGURES.find(figure) for figure in word])
    if not is_group(group, bound):
        return ()
    return group


def _may_follow(row, rows):
    """Whether the next line may have this row, where the lines ahead have these."""
    member = len(rows)
    if (member,) not in row:
        return False
    for earlier, other in enumerate(rows):
        if _groups_with(row, earlier) != _groups_with(other, member):
            return False
    return len(_all_groups(rows + [row])) <= MOST_GROUPS


def _groups_with(row, member):
    """The groups of a row that have this member, in plain order."""
    return in_plain_order([group for group in row if member in group])


def _all_groups(rows):
    """The unlike groups of these rows, in plain order."""
    return in_plain_order(sorted(set([group for row in rows for group in row])))


def _wishes_of(rows):
    """The wishes in plain form of right rows."""
    groups = _all_groups(rows)
    ranks = [tuple([row[group] for group in groups if group in row]) for row in rows]
    return Wishes(Collection(len(rows), groups), tuple(ranks))
