"""Names, texts, numbers and letters."""

NAME_MOST = 8
TEXT_MOST = 16
NAME_SIGNS = "abcdefghijklmnopqrstuvwxyz"
TEXT_SIGNS = "abcdefghijklmnopqrstuvwxyz0123456789 "


def is_number(value):
    return isinstance(value, int) and not isinstance(value, bool) and value >= 0


def is_name(value):
    if not isinstance(value, str) or value == "" or len(value) > NAME_MOST:
        return False
    return _has_only(value, NAME_SIGNS)


def is_text(value):
    if not isinstance(value, str) or len(value) > TEXT_MOST:
        return False
    return _has_only(value, TEXT_SIGNS)


def _has_only(value, signs):
    return all([sign in signs for sign in value])


def is_letter(value):
    """Tell whether a value is a name, or the letter of texts."""
    return is_name(value) or (isinstance(value, str) and value == "")


def ascends(values):
    """Tell whether each of some values that can be compared is greater than that ahead."""
    return all([values[at] < values[at + 1] for at in range(len(values) - 1)])


def are_ascending_names(value):
    """Tell whether any value is an ascending tuple of names."""
    return isinstance(value, tuple) and all([is_name(name) for name in value]) and ascends(value)


def are_ascending_letters(value):
    """Tell whether any value is an ascending tuple of letters."""
    return isinstance(value, tuple) and all([is_letter(letter) for letter in value]) and ascends(value)


def is_state(value, many):
    """Tell whether any value is a number below how many states there are."""
    return is_number(value) and value < many


def are_states(value, length, many):
    """Tell whether any value is a tuple of so many states."""
    return isinstance(value, tuple) and len(value) == length and all([is_state(state, many) for state in value])


def are_ascending_states(value, many):
    """Tell whether any value is an ascending tuple of states."""
    return isinstance(value, tuple) and are_states(value, len(value), many) and ascends(value)


def numbered_name(number):
    """Tell the name with a number: a, b, .. z, ba, bb, .."""
    many = len(NAME_SIGNS)
    name = NAME_SIGNS[number % many]
    while number >= many:
        number = number // many
        name = NAME_SIGNS[number % many] + name
    return name
