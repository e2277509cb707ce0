"""Answerlines: fractions named by turns, and answers that win every play."""
