"""What is no row, and what just still is one."""

from search import BELOW_30

GREAT = 2 ** 30

NO_ROWS = (
    [], [0], [1, 0], [0, 1, 1], [1, 1, 0], [1, 2, 3, 0, 5], [0] * 8, [1] * 9, [1] * 20, [-1] * 12,
    [True], [False], [1, True], [True, 1], [1, -1, False], [True, -1, 1], [1, 2, True], [True] * 8,
    [None], [1, None], [None, 1, 1], [1, 1, None], ["1"], [1, "2"], ["", 1, -1], [1, "-1", 1], ["row"], [1, 1, "a"],
    [GREAT], [-GREAT], [1, GREAT], [1, -GREAT], [GREAT, -1, 1], [1, 1, -GREAT], [1, 2, GREAT + 1], [10 ** 12, 1, -1],
    [1, -10 ** 60], [1] * 7 + [GREAT], [1] * 7 + [0], [1] * 8 + [None], [GREAT] * 20, [None] * 20, ["x"] * 9,
    [True] * 20,
)

JUST_ROWS = (
    [1], [-1], [GREAT - 1], [1 - GREAT], [BELOW_30], [-BELOW_30], [1] * 8, [-1] * 8, [1, 1 - GREAT],
    [GREAT - 1, 1 - GREAT, 1], [GREAT - 1] * 8, [1 - GREAT] * 8, [BELOW_30] * 8, [1, 2, 3, 5, 6, 7, 10, GREAT - 1],
)
