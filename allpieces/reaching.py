"""Who comes to a piece. Nothing is checked here: a net, its holders and a giving by form are passed."""


def comers_to(net, held, giving, piece):
    """Return a dict of the houses that come to the piece, each with the wire by which it came first.

    For the houses that held it at first, -1 stands for the wire.
    """
    led = [(wire, source, target) for wire, (source, target) in enumerate(net[1]) if giving[wire] == piece]
    found = {house: -1 for house in held}
    waiting = list(held)
    while waiting:
        house = waiting.pop()
        for wire, source, target in led:
            if source == house and target not in found:
                found[target] = wire
                waiting.append(target)
    return found


def comers(net, holders, giving):
    """Return a list with, for each piece, a dict of the houses that come to it, as comers_to does."""
    return [comers_to(net, held, giving, piece) for piece, held in enumerate(holders)]
