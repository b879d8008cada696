"""Which editions are in play, which is in force, which are looked at for a name."""


def editions_in_play(code, view):
    """The editions whose day is not later than the view day, the latest first: so the one in force leads."""
    found = [edition for edition in code.editions.values() if edition.day <= view]
    return sorted(found, key=lambda edition: edition.day, reverse=True)


def editions_looked_at(in_play, name):
    """The editions in play that bear on a name: each that keeps lets the next earlier one speak too."""
    looked_at = []
    for edition in in_play:
        looked_at.append(edition)
        if edition.keeps == 0 or name.day >= edition.day:
            break
    return looked_at
