"""Deeds that were read, done to a house."""


def do_deed(house, deed):
    """Do a deed: a tuple of its name and of what it is handed."""
    name = deed[0]
    if name == "sew":
        house.sew(deed[1], deed[2])
    elif name == "join":
        house.join(deed[1], deed[2], deed[3])
    elif name == "turn":
        house.turn(deed[1], deed[2])
    elif name == "look":
        house.look(deed[1], deed[2], deed[3])
    elif name == "power":
        house.power(deed[1], deed[2], deed[3])
    elif name == "drop":
        house.drop(deed[1])
    elif name == "hang":
        house.hang(deed[1], deed[2], deed[3])
    elif name == "wear":
        house.wear(deed[1], deed[2])
    elif name == "doff":
        house.doff(deed[1])
    elif name == "unhang":
        house.unhang(deed[1])
