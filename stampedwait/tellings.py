"""The rows of a history: what each begins with, and how they are kept and told."""

DEALING_ROW = "dealing"
FORM_ROW = "form"
READ_ROW = "read"
NOW_ROW = "now"
DEALING_PARTS = 7
FORM_PARTS = 3
READ_PARTS = 5


def rows_as_told(kept):
    """What a dealing read and wrote is kept as tuples, and told as lists that are the asker's own."""
    return [row[:5] + (list(row[5]), list(row[6])) if len(row) == DEALING_PARTS else row for row in kept]
