"""Rows (care, level) and gates, which are tuples of rows, over codes."""


def fits(row, code):
    return (code & row[0]) == row[1]


def is_up(gate, code):
    return any([fits(row, code) for row in gate])


def row_of(code, care):
    return (care, code & care)
