"""Writing ratios and books as text."""


def write_ratio(value):
    """Returns the text of the ratio."""
    n, d = value
    if d == 1:
        return str(n)
    return f"{n}/{d}"


def write_book(book):
    """Returns the text of the book."""
    discount, games, places = book
    lines = [f"discount {write_ratio(discount)}"]
    for name, game in games:
        lines.append(f"game {name}")
        lines.extend(game_lines(game))
    lines.extend([f"place {name} {state}" for name, state in places])
    return "".join([line + "\n" for line in lines])


def game_lines(game):
    """Returns the list of the lines of the states of a game."""
    lines = []
    for reward, row in zip(game[0], game[1]):
        lines.append(f"state {write_ratio(reward)}")
        lines.extend([f"to {target} {write_ratio(probability)}" for target, probability in row])
    return lines
