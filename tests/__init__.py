"""Tests of answerlines; run them as README.md tells."""
