"""Courses: what the world and the hands do, moment by moment."""

from hearthrules.errors import NoCourse
from hearthrules.houses import House, are_inner_names, gives_each, has_value
from hearthrules.names import are_pairs, is_row

MOST_ROWS = 999


def are_hands(house, hands):
    """Tell whether HANDS, of any kind, set unlike inner things to values that they have, rising."""
    return (are_pairs(hands, 0, len(house.inner))
            and all([has_value(house.inner, thing, value) for thing, value in hands]))


def is_course_row(house, row):
    """Tell whether ROW, of any kind, is a row of a course of this house."""
    if not is_row(row, 4, 4):
        return False
    outer, hands, freed, failing = row
    if not gives_each(house.outer, outer) or not are_hands(house, hands):
        return False
    if not are_inner_names(house, freed) or not are_inner_names(house, failing):
        return False
    return not any([thing in freed for thing, value in hands])


class Course:
    """Rows of a house, one for each moment: outer values, hands, freed things and failing ones."""

    def __init__(self, house, rows=None):
        told = () if rows is None else rows
        if not isinstance(house, House) or not is_row(told, 0, MOST_ROWS):
            raise NoCourse(None)
        for number, row in enumerate(told):
            if not is_course_row(house, row):
                raise NoCourse(number)
        self.house = house
        self.rows = told

    def __eq__(self, other):
        return isinstance(other, Course) and self.house == other.house and self.rows == other.rows

    def __len__(self):
        return len(self.rows)

    def __repr__(self):
        return f"Course({len(self.rows)})"


def plain(house, outers):
    """Tell the course of these outer values, all else in it empty; both may be of any kind."""
    # None stands for no rows where a course is made, but it is no tuple of outer values.
    if not isinstance(outers, tuple):
        raise NoCourse(None)
    return Course(house, tuple([(outer, (), (), ()) for outer in outers]))
