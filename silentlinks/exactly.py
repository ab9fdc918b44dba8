"""In how many rounds a deed of a memory is answered."""

from silentlinks.errors import NotAdmitted
from silentlinks.lots import check_same_houses
from silentlinks.nets import alive_house
from silentlinks.served import put_rounds, tour_rounds


def rounds_told(machine, net, house, deed):
    """In how many rounds a deed of house is answered, None if the lots of the Memory do not serve it."""
    check_same_houses(machine, net)
    alive_house(net, house)
    if not machine.admits(house, deed):
        raise NotAdmitted(house)
    if deed[0] == "put" and machine.owners[deed[1]] is None:
        return put_rounds(machine.lots, net, house)
    return tour_rounds(machine.lots, net, house)
