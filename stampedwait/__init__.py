"""Stampedwait: dealings that unsure clocks put in order."""
