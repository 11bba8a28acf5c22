"""How far sessions, roots, places, sizes, the room and work go."""

LAST_SESSION = 7
LAST_ROOT = 31
LAST_PLACE = 127
LARGEST_SIZE = 9999
MOST_REFERENCES = 64
FIRST_ROOM = 100000
LARGEST_ROOM = 100000
MOST_UNITS = 1000


def is_session(number):
    return 0 <= number <= LAST_SESSION


def is_root(number):
    return 0 <= number <= LAST_ROOT


def is_place(number):
    return 0 <= number <= LAST_PLACE


def is_size(number):
    return 0 <= number <= LARGEST_SIZE


def is_reference_count(number):
    return 0 <= number <= MOST_REFERENCES


def is_room(number):
    return 0 <= number <= LARGEST_ROOM


def is_number_of_units(number):
    return 0 <= number <= MOST_UNITS


def is_number_to_be_won(number):
    return number >= 0


def are_places(numbers):
    return all([is_place(number) for number in numbers])


def are_sizes(numbers):
    return all([is_size(number) for number in numbers])
