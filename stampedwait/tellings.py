"""The rows of a history: what each begins with."""

DEALING_ROW = "dealing"
FORM_ROW = "form"
READ_ROW = "read"
NOW_ROW = "now"
