"""Paceplan: works at speeds of one's choice, least power, and papers that show it."""
