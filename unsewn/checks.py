"""How the functions of the package refuse a parameter."""

from unsewn.errors import NotUsable


def need(holds, name):
    """Refuse the parameter of that name unless what it must be holds."""
    if not holds:
        raise NotUsable(name, -1)
