"""The least room in which a machine comes to its end."""

from lazywebs.diary import Diary
from lazywebs.work import Work, first_cells, look_at_rows

MOST_ROOM = 4000


def least_room(program, rows, deep, most):
    """The least room in which a new machine tells what is asked, or None."""
    look_at_rows(program, rows)
    # Once without any sweep: so it needn't be tried in one room behind another.
    diary = Diary(first_cells(program))
    Work(program, rows, diary).told((), deep, most)
    least = diary.least_room()
    return least if least <= MOST_ROOM else None
