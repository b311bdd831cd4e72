"""Of promise 2: nothing that is handed in is changed or kept, and what is told is new and the asker's own."""

import copy

from samples import lists_in, spoil


def check_nothing_changed_or_kept(case, function, handed):
    """Asks again and again, spoils what was told and what was handed in, and looks whether anything hangs on it."""
    before = copy.deepcopy(handed)
    first, second = function(*handed), function(*handed)
    case.assertEqual(handed, before, function)
    found = lists_in(first) + lists_in(second)
    case.assertEqual(len(found), len(set(found)), function)
    case.assertFalse(set(found) & set(lists_in(handed)), function)
    wanted = copy.deepcopy(second)
    spoil(first)
    case.assertEqual(handed, before, function)
    case.assertEqual(second, wanted, function)
    case.assertEqual(function(*handed), wanted, function)
    given = copy.deepcopy(handed)
    third = function(*given)
    spoil(given)
    case.assertEqual(third, wanted, function)
    case.assertEqual(function(*handed), wanted, function)
