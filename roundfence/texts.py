"""Texts: how Boards and standings are written."""


def show_board(board):
    """The text of a Board: its rounds, and the rows of its rule by their pairs."""
    rows = [f"{a}{b} {word}" for a, b, word in board.rule()]
    rule = ", ".join(rows) if rows else "-"
    return f"{board.first()} {board.second()}: {rule}"


def show_standing(standing):
    """The text of a standing: its place, and who stepped last."""
    i, j, last = standing
    return f"{i}.{j} {last}"
