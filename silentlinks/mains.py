"""The main questions: what becomes of a claim, and what a book can keep."""

from silentlinks.blockers import quick_lots
from silentlinks.breaker import break_claim
from silentlinks.choices import full_claim
from silentlinks.critical import critical
from silentlinks.friends import blind
from silentlinks.greatest import greatest_claims
from silentlinks.memory import Memory
from silentlinks.numbering import order_by_numbers
from silentlinks.worlds import World


def decide(claim):
    """The lots that keep the claim, or two of its places that are foes, and why."""
    pair = claim.foes()
    if pair is not None:
        return ("foes",) + blind(claim.book, pair[0], pair[1])
    return ("kept", None if len(claim) == 0 else quick_lots(claim))


def done_where_it_can(machine, schedule):
    """A World behind those of the events that it does, one after the other."""
    world = World(machine)
    for event in schedule:
        if world.can(event):
            world.do(event)
    return world


def kept_or_broken(claim, machine, schedule, *, patience=24):
    """The lots of a Memory that keeps the claim, with the order of its history, or a paper against the machine."""
    told = decide(claim)
    if told[0] == "foes":
        return ("broken", break_claim(machine, claim, patience=patience))
    if told[1] is None:
        return ("kept", None, None)
    world = done_where_it_can(Memory(told[1]), schedule)
    return ("kept", told[1], order_by_numbers(world))


def largest(claims):
    """The first of the claims with the most places."""
    most = max([len(claim) for claim in claims])
    return [claim for claim in claims if len(claim) == most][0]


def best_claim(book):
    """The first greatest claim with the most places."""
    return largest(greatest_claims(book))


def portrait(book):
    """A list of lines that tell what the book can keep."""
    claims = greatest_claims(book)
    full = full_claim(book) is not None
    places = " ".join([f"{number}:{house}" for number, house in largest(claims)])
    lines = ["full claim: yes" if full else "full claim: no"]
    lines.append(f"greatest claims: {len(claims)}")
    lines.append("best claim: " + ("none" if places == "" else places))
    if not full:
        lines.append("critical patterns: " + " ".join([str(number) for number in critical(book)]))
    return lines
