"""Point 2 for any function that tells lists: what is told is its asker's own, and what is given stays."""

import copy


def lists_in(thing):
    """Every list in what was told, itself among them."""
    found = [thing] if isinstance(thing, list) else []
    if isinstance(thing, (list, tuple)):
        for part in thing:
            found.extend(lists_in(part))
    return found


def assert_own(case, ask, *given):
    now = copy.deepcopy(given)
    first = ask(*now)
    wanted = copy.deepcopy(first)
    for one in lists_in(first):
        one.append("more")
    case.assertEqual(now, given)
    told = ask(*now)
    case.assertEqual(told, wanted)
    case.assertEqual(now, given)
    for one in lists_in(now):
        one.clear()
    case.assertEqual(told, wanted)
    # No two lists in it are one, so that a change of one leaves the others.
    case.assertEqual(len({id(one) for one in lists_in(told)}), len(lists_in(told)))
