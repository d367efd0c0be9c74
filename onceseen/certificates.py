"""Certificates: closed lists of states of a watched system, none of which goes wrong."""

from onceseen.checks import check_wish, is_list


def never(system, wish):
    """Whether no state of the table goes wrong for the wish."""
    return wrong_states(system, wish) == []


def wrong_states(system, wish):
    """The sorted list of the states of the table that go wrong for the wish."""
    check_wish(wish, system.has_all_wishes())
    return system.wrong(wish)


def is_certificate(system, wish, value):
    """Whether any value is a certificate for the wish; nothing but its own states is looked at."""
    check_wish(wish, system.has_all_wishes())
    if not is_list(value) or not system.is_closed(value):
        return False
    return not any([system.goes_wrong(state, wish) for state in value])
