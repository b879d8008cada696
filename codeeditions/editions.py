"""Which edition is in force."""


def edition_in_force(code, view):
    """The latest edition whose day is not later than the view day; None if there's none."""
    latest = None
    for edition in code.editions.values():
        if edition.day <= view and (latest is None or edition.day > latest.day):
            latest = edition
    return latest
