"""What a value is (point 4)."""

MOST_SIGNS = 60
MOST_PARTS = 300
MOST_DEEP = 3
PERCENT = 37


def is_value(thing):
    return is_value_within(thing, MOST_DEEP)


def is_value_within(thing, deep):
    if thing is None:
        return True
    if isinstance(thing, str):
        return is_text_value(thing)
    if isinstance(thing, tuple):
        return is_tuple_value(thing, deep)
    return is_whole(thing) and -10 ** 30 <= thing <= 10 ** 30


def is_whole(thing):
    # For Python, True and False are numbers; here they are none.
    return isinstance(thing, int) and not isinstance(thing, bool)


def is_text_value(text):
    return len(text) <= MOST_SIGNS and all([is_sign(sign) for sign in text])


def is_sign(sign):
    return " " <= sign <= "~" and ord(sign) != PERCENT


def is_tuple_value(parts, deep):
    # The depth is asked ahead of the parts, so that no tuple, however deep, is followed far.
    if deep == 0 or len(parts) > MOST_PARTS:
        return False
    for part in parts:
        if not is_value_within(part, deep - 1):
            return False
    return True
