"""Links that suffice for the echoes of a house."""

from silentlinks.amounts import without
from silentlinks.parts import part, past
from silentlinks.paths import path
from silentlinks.patterns import Pattern


def kept_links(net, house):
    """The kept links of house, ascending."""
    links = []
    for x in part(net, house):
        if x != house:
            row = path(net, house, x)
            links.append((row[-2], row[-1]))
    for x in past(net, house):
        if x != house:
            row = path(net, x, house)
            links.append((row[0], row[1]))
    return tuple(sorted(set(links)))


def hushed(net, house):
    """The pattern of the net with all lasting links silent but the kept ones."""
    return net.pattern | Pattern((), without(net.links, kept_links(net, house)))
