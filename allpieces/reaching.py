"""Who comes to a piece. Nothing is checked here: a net, its holders and a giving by form are passed."""


def comers_to(net, held, giving, piece):
    """Return a dict of the houses that come to the piece from those that held it at first."""
    led = [wire for wire, given in zip(net[1], giving) if given == piece]
    found = {house: True for house in held}
    waiting = list(held)
    while waiting:
        house = waiting.pop()
        for source, target in led:
            if source == house and target not in found:
                found[target] = True
                waiting.append(target)
    return found


def comers(net, holders, giving):
    """Return a list with, for each piece, a dict of the houses that come to it."""
    return [comers_to(net, held, giving, piece) for piece, held in enumerate(holders)]
