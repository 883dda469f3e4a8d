"""The auction of a game of cards: a table that keeps it and counts how it may go on."""
