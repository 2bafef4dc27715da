"""Histories: whether what was told is one order, that of the stamps."""

from stampedwait.errors import NoHistory
from stampedwait.ledgers import last_up_to, shaped
from stampedwait.shelves import MOST_FIELDS, is_key, is_worth
from stampedwait.tellings import DEALING_PARTS, DEALING_ROW, FORM_PARTS, FORM_ROW, NOW_ROW, READ_PARTS, READ_ROW
from stampedwait.times import is_from_to, is_stamp, is_whole


def is_row(thing):
    if not isinstance(thing, tuple) or not thing or not isinstance(thing[0], str):
        return False
    if thing[0] == DEALING_ROW:
        return len(thing) == DEALING_PARTS and is_dealing_row(thing)
    if thing[0] == FORM_ROW:
        return len(thing) == FORM_PARTS and is_whole(thing[1]) and is_from_to(thing[2], 1, MOST_FIELDS)
    if thing[0] in (READ_ROW, NOW_ROW):
        return len(thing) == READ_PARTS and is_read_row(thing)
    return False


def is_dealing_row(row):
    word, number, begun, told, stamp, reads, writes = row
    if not all([is_whole(part) for part in (number, begun, told)]) or not is_stamp(stamp):
        return False
    return is_list_of_pairs(reads, True) and is_list_of_pairs(writes, False)


def is_read_row(row):
    word, asked, time, key, worth = row
    return is_whole(asked) and is_whole(time) and is_key(key) and is_told_worth(worth, True)


def is_told_worth(thing, or_none):
    return is_worth(thing) or (or_none and thing is None)


def is_list_of_pairs(thing, or_none):
    """Whether it is a list of tuples (key, worth), a worth perhaps None."""
    if not isinstance(thing, list):
        return False
    return all([isinstance(pair, tuple) and len(pair) == 2 and is_key(pair[0]) and is_told_worth(pair[1], or_none)
                for pair in thing])


def are_unlike(things):
    return len(set(things)) == len(things)


def have_unlike_keys(pairs):
    return are_unlike([key for key, worth in pairs])


def of_word(history, word):
    return [row for row in history if row[0] == word]


def dealings_by_stamps(history):
    return sorted(of_word(history, DEALING_ROW), key=lambda row: row[4])


def are_fit(dealings):
    """Whether each by itself can be, and no two are taken for one."""
    if not are_unlike([row[1] for row in dealings]) or not are_unlike([row[4] for row in dealings]):
        return False
    for word, number, begun, told, stamp, reads, writes in dealings:
        if told < begun or not have_unlike_keys(reads) or not have_unlike_keys(writes):
            return False
    return True


def go_as_true_time(dealings):
    """Whether, by stamps, none was told no later than one ahead of it was begun."""
    latest = None
    for word, number, begun, told, stamp, reads, writes in dealings:
        if latest is not None and told <= latest:
            return False
        latest = begun if latest is None else max(latest, begun)
    return True


def read_what_was_written(dealings):
    """Whether, done one by one by stamps, each reads just what it read."""
    worths = {}
    for word, number, begun, told, stamp, reads, writes in dealings:
        if not all([worths.get(key) == worth for key, worth in reads]):
            return False
        for key, worth in writes:
            worths[key] = worth
    return True


def versions_by_keys(dealings):
    """For each key a row of (time, worth), by stamps."""
    versions = {}
    for word, number, begun, told, stamp, reads, writes in dealings:
        for key, worth in writes:
            rows = versions.get(key, [])
            rows.append((stamp[0], worth))
            versions[key] = rows
    return versions


def forms_by_times(history):
    # sorted by times alone: of like ones the list's order stays
    return sorted([(time, fields) for word, time, fields in of_word(history, FORM_ROW)], key=lambda form: form[0])


def lacks_one_told(dealings, asked, time):
    """Whether one told no later than it was asked has a stamp above the time."""
    return any([row[3] <= asked and row[4][0] > time for row in dealings])


def are_reads_right(history, dealings):
    versions = versions_by_keys(dealings)
    forms = forms_by_times(history)
    for word, asked, time, key, worth in of_word(history, READ_ROW) + of_word(history, NOW_ROW):
        fields = last_up_to(forms, time, None)
        if shaped(last_up_to(versions.get(key, []), time, None), fields) != worth:
            return False
        if word == NOW_ROW and lacks_one_told(dealings, asked, time):
            return False
    return True


def is_ordered(thing):
    if not isinstance(thing, list) or not all([is_row(row) for row in thing]):
        return False
    if not thing:
        return True
    dealings = dealings_by_stamps(thing)
    if not are_fit(dealings) or not go_as_true_time(dealings):
        return False
    return read_what_was_written(dealings) and are_reads_right(thing, dealings)


def order_of(thing):
    if not is_ordered(thing):
        raise NoHistory("no history that is ordered")
    return [row[1] for row in dealings_by_stamps(thing)]
